package replica_test

import (
	"math"
	"math/rand"
	"slices"
	"testing"

	"cellplane/api"
	"cellplane/replica"
)

// eachMessage calls a function with every message of a kind from a small range.
func eachMessage(kind int, visit func(m api.Message)) {
	commits, lists := []int{2}, [][]api.Logged{nil}
	oks := []bool{false, true}
	if kind == api.MsgAppend {
		commits, oks = []int{0, 2, 4}, []bool{false}
		for _, terms := range [][]int{{1}, {2}, {3}, {4}, {1, 2}, {2, 2}, {2, 3}, {1, 2, 3}, {1, 2, 2, 2}, {3, 3, 3}} {
			lists = append(lists, otherLogged(terms...))
		}
	}
	for _, from := range []int{0, 3} {
		for term := 1; term <= 5; term++ {
			for index := range 6 {
				for prev := range 5 {
					for _, commit := range commits {
						for _, ok := range oks {
							for _, l := range lists {
								visit(api.Message{Kind: kind, From: from, To: 1, Term: term, Index: index, PrevTerm: prev, Commit: commit, OK: ok, Entries: l})
							}
						}
					}
				}
			}
		}
	}
}

// Every message of a small range is handled as the model handles it, and so is what comes next.
func TestP94EveryMessage(t *testing.T) {
	for _, p := range states(t) {
		for kind := range 6 {
			eachMessage(kind, func(m api.Message) {
				if m.From >= p.m.n {
					return
				}
				c := p.copy()
				c.handle(t, m)
				c.beat(t)
				if c.r.Role() == api.Leader && m.Index < 4 {
					c.handle(t, stored(2, 1, c.r.Term(), true, m.Index))
					c.beat(t)
				}
			})
		}
	}
}

// net is a set of replicas and the messages between them, and what has been seen of them so far.
type net struct {
	t         *testing.T
	random    *rand.Rand
	pairs     []pair
	flight    []api.Message
	leaders   map[int]int    // by term
	votes     map[[2]int]int // by replica and term
	committed []api.Logged
}

func newNet(t *testing.T, n int, seed int64) *net {
	w := &net{t: t, random: rand.New(rand.NewSource(seed)), leaders: map[int]int{}, votes: map[[2]int]int{}}
	for id := range n {
		w.pairs = append(w.pairs, fresh(t, id, n))
	}
	return w
}

// step makes an act of the net, and checks what must hold in every one.
func (w *net) step() {
	w.t.Helper()
	i := w.random.Intn(len(w.pairs))
	p := w.pairs[i]
	switch w.random.Intn(24) {
	case 0:
		w.after(i, func() []api.Message { return p.campaign(w.t) })
	case 1, 2, 3, 4:
		w.after(i, func() []api.Message {
			l, _ := p.propose(w.t, note(w.random.Intn(1000)-20))
			return l
		})
	case 5, 6:
		w.after(i, func() []api.Message { return p.beat(w.t) })
	case 7:
		if w.random.Intn(4) == 0 {
			w.after(i, func() []api.Message {
				p.crash(w.t, w.random.Intn(100)-10)
				return nil
			})
		}
	case 8:
		w.pairs[i] = p.copy()
	default:
		w.deliver()
	}
}

// deliver hands out a message, or several times the same one, or loses it.
func (w *net) deliver() {
	w.t.Helper()
	if len(w.flight) == 0 {
		return
	}
	k := w.random.Intn(len(w.flight))
	if w.random.Intn(2) == 0 {
		k = 0
	}
	m := w.flight[k]
	if w.random.Intn(8) > 0 {
		w.flight = slices.Delete(w.flight, k, k+1)
	}
	if w.random.Intn(8) > 0 {
		w.after(m.To, func() []api.Message { return w.pairs[m.To].handle(w.t, m) })
	}
}

// after lets a replica do something, sends what it returns, and checks what must hold.
func (w *net) after(i int, act func() []api.Message) {
	w.t.Helper()
	r := w.pairs[i].r
	term, commit, log := r.Term(), r.Commit(), r.Log()
	for _, m := range act() {
		if m.From != i || m.Term != r.Term() || m.To == i || m.To < 0 || m.To >= len(w.pairs) {
			w.t.Fatalf("replica %d sends %v", i, m)
		}
		w.flight = append(w.flight, m)
	}
	if len(w.flight) > 30 {
		w.flight = w.flight[len(w.flight)-30:]
	}
	if r.Term() < term {
		w.t.Fatalf("the term of replica %d falls from %d to %d", i, term, r.Term())
	}
	if r.Len() < commit || !slices.Equal(r.Log()[:commit], log[:commit]) {
		w.t.Fatalf("replica %d has lost an entry that was committed", i)
	}
	w.checkTerm(i)
	w.checkCommitted(i)
	for k := range w.pairs {
		checkMatching(w.t, r, w.pairs[k].r)
	}
}

// checkTerm checks that there is one leader in a term, and one vote of each replica.
func (w *net) checkTerm(i int) {
	w.t.Helper()
	r := w.pairs[i].r
	if r.Role() == api.Leader {
		if other, ok := w.leaders[r.Term()]; ok && other != i {
			w.t.Fatalf("replicas %d and %d lead in term %d", other, i, r.Term())
		}
		w.leaders[r.Term()] = i
	}
	if vote, ok := w.votes[[2]int{i, r.Term()}]; ok && vote != r.Vote() {
		w.t.Fatalf("replica %d votes for %d and %d in term %d", i, vote, r.Vote(), r.Term())
	}
	if r.Vote() != -1 {
		w.votes[[2]int{i, r.Term()}] = r.Vote()
	}
}

// checkCommitted checks that what any replica has had as committed is a beginning of what all have.
func (w *net) checkCommitted(i int) {
	w.t.Helper()
	r := w.pairs[i].r
	committed := r.Log()[:r.Commit()]
	common := min(len(committed), len(w.committed))
	if !slices.Equal(committed[:common], w.committed[:common]) {
		w.t.Fatalf("replica %d has committed\n%v, not\n%v", i, committed, w.committed)
	}
	if len(committed) > len(w.committed) {
		w.committed = committed
	}
}

// checkMatching checks that two logs which have an entry of one index and term are the same up to it.
func checkMatching(t *testing.T, a, b *replica.Replica) {
	t.Helper()
	x, y := a.Log(), b.Log()
	for i := min(len(x), len(y)) - 1; i >= 0; i-- {
		if x[i].Term == y[i].Term {
			if !slices.Equal(x[:i+1], y[:i+1]) {
				t.Fatalf("two logs are\n%v and\n%v", x, y)
			}
			return
		}
	}
}

func TestConsequences(t *testing.T) {
	terms, commits := 0, 0
	for seed := range int64(90) {
		w := newNet(t, 1+2*int(seed%3), seed)
		for range 400 {
			w.step()
		}
		terms += len(w.leaders)
		commits += len(w.committed)
	}
	// The runs are worth something only if there is much to agree on.
	if terms < 300 || commits < 300 {
		t.Errorf("the runs have %d leaders and %d committed entries", terms, commits)
	}
}

// With nothing lost, a leader brings every log to its own, and commits it.
func TestConsequencesOfQuietRuns(t *testing.T) {
	for seed := range int64(60) {
		w := newNet(t, 3+2*int(seed%2), seed)
		for range 150 {
			w.step()
		}
		last := w.settle()
		for i, p := range w.pairs {
			if !slices.Equal(p.r.Log(), last.Log()) || p.r.Commit() != last.Len() {
				t.Errorf("seed %d: replica %d has %d entries, %d of them committed, and not %d", seed, i, p.r.Len(), p.r.Commit(), last.Len())
			}
		}
	}
}

// settle elects the replica with the best log, lets it propose an entry, and delivers all messages. It returns this replica.
func (w *net) settle() *replica.Replica {
	w.t.Helper()
	w.flight = nil
	best := w.pairs[0]
	for _, p := range w.pairs[1:] {
		if p.m.lastTerm() > best.m.lastTerm() || p.m.lastTerm() == best.m.lastTerm() && p.r.Len() > best.r.Len() {
			best = p
		}
	}
	for range 2 {
		w.flight = append(w.flight, best.campaign(w.t)...)
		w.drain()
	}
	l, _ := best.propose(w.t, note(0))
	w.flight = append(w.flight, l...)
	w.drain()
	w.flight = append(w.flight, best.beat(w.t)...)
	w.drain()
	return best.r
}

// drain delivers all messages in their order.
func (w *net) drain() {
	for len(w.flight) > 0 {
		m := w.flight[0]
		w.flight = append(w.flight[1:], w.pairs[m.To].handle(w.t, m)...)
	}
}

// generated returns a message with fields around those that a replica expects.
func generated(random *rand.Rand, m *model) api.Message {
	x := api.Message{
		Kind: 1 + random.Intn(4), From: random.Intn(m.n), To: m.id, Term: m.term + max(random.Intn(12)-9, -1), Index: len(m.log) + random.Intn(5) - 3,
		PrevTerm: m.term - random.Intn(3), Commit: random.Intn(len(m.log) + 3), OK: random.Intn(3) > 0,
	}
	if random.Intn(3) > 0 && x.Index > 0 && x.Index <= len(m.log) {
		x.PrevTerm = m.log[x.Index-1].Term
	}
	if x.Index == 0 || random.Intn(5) == 0 {
		x.Index, x.PrevTerm = 0, 0
	}
	term := max(x.PrevTerm, 1)
	for range random.Intn(5) {
		term += random.Intn(6) / 5
		x.Entries = append(x.Entries, api.Logged{Term: term, Entry: note(random.Intn(200) - 1)})
	}
	switch random.Intn(40) {
	case 0:
		x.Kind = random.Intn(8) - 1
	case 1:
		x.From, x.To = random.Intn(7)-1, random.Intn(7)-1
	case 2:
		x.Index = []int{-1, api.MaxEntries, api.MaxEntries + 1, math.MaxInt, math.MinInt}[random.Intn(5)]
	case 3:
		x.Commit = []int{-1, api.MaxEntries, api.MaxEntries + 1, math.MaxInt, math.MinInt}[random.Intn(5)]
	}
	return x
}

// Messages that no replica sends are handled by the chapter's words, too.
func TestP92P93P94P95GeneratedRuns(t *testing.T) {
	random := rand.New(rand.NewSource(9))
	roles := map[int]int{}
	for run := range 600 {
		n := []int{3, 5}[run%2]
		p := fresh(t, random.Intn(n), n)
		for range 80 {
			roles[p.r.Role()]++
			generatedStep(t, random, p)
		}
	}
	if roles[api.Leader] < 5000 || roles[api.Candidate] < 2000 || roles[api.Follower] < 5000 {
		t.Errorf("the roles are %v", roles)
	}
}

// generatedStep makes a call of a replica.
func generatedStep(t *testing.T, random *rand.Rand, p pair) {
	t.Helper()
	switch random.Intn(30) {
	case 0, 1:
		p.campaign(t)
	case 2, 3, 4:
		p.propose(t, note(random.Intn(50)-1))
	case 5:
		p.beat(t)
	case 6:
		if random.Intn(4) == 0 {
			p.crash(t, random.Intn(200)-20)
		}
	case 7, 8, 9, 10:
		p.handle(t, voted(p.m.others()[random.Intn(p.m.n-1)], p.m.id, p.m.term, true))
	case 11, 12, 13, 14:
		p.handle(t, stored(p.m.others()[random.Intn(p.m.n-1)], p.m.id, p.m.term, random.Intn(3) > 0, random.Intn(len(p.m.log)+2)))
	default:
		p.handle(t, generated(random, p.m))
	}
}

// acts are calls that change something.
func acts(t *testing.T) []func(p pair) {
	return []func(p pair){
		func(p pair) { p.campaign(t) },
		func(p pair) { p.propose(t, note(50)); p.propose(t, note(51)) },
		func(p pair) { p.crash(t, 0) },
		func(p pair) { p.handle(t, asksVote(2, 1, p.r.Term()+1, 9, p.r.Term()+1)) },
		func(p pair) { p.handle(t, asksVote(2, 1, max(p.r.Term(), 1), 9, max(p.r.Term(), 1))) },
		func(p pair) { p.handle(t, voted(2, 1, p.r.Term(), true)); p.handle(t, voted(0, 1, p.r.Term(), true)) },
		func(p pair) { p.handle(t, stored(2, 1, p.r.Term(), true, p.r.Len())) },
		func(p pair) { p.handle(t, stored(2, 1, p.r.Term(), false, 0)) },
		func(p pair) { p.handle(t, appends(2, 1, p.r.Term()+1, 0, 0, 0, logged(1, 1, 1, 1, 1, 1)...)) },
		func(p pair) { p.handle(t, appends(2, 1, p.r.Term()+1, 0, 0, 9, logged(1, 2)...)) },
		func(p pair) { p.handle(t, appends(2, 1, p.r.Term()+1, 1, 1, 2, otherLogged(2, 3)...)) },
	}
}

// What becomes of a replica leaves its copy as it is, and the other way round.
func TestP91CopyIsIndependent(t *testing.T) {
	for _, p := range states(t) {
		for _, first := range acts(t) {
			for _, second := range acts(t) {
				changed, still := p.copy(), p.copy()
				first(changed)
				still.check(t, "a copy of the same replica")
				second(still)
				changed.check(t, "another copy")
				changed.beat(t)
				still.beat(t)
				p.check(t, "the replica itself")
				p.beat(t)
			}
		}
	}
}

// A replica may be changed when its copy is made, which does not change with it.
func TestP91CopyStays(t *testing.T) {
	for k := range states(t) {
		for _, act := range acts(t) {
			p := states(t)[k]
			c := p.copy()
			act(p)
			c.check(t, "a copy")
			c.beat(t)
			act(c)
			checkSame(t, p, c)
			p.check(t, "the replica")
		}
	}
}

func TestR1AnyNumbers(t *testing.T) {
	random := rand.New(rand.NewSource(1))
	numbers := append([]int{-2, -1, 0, 1, 2, 3, 4, 5, api.MaxTick, api.MaxEntries}, far...)
	number := func() int { return numbers[random.Intn(len(numbers))] }
	entry := func() api.Entry {
		return api.Entry{Kind: number(), Tick: number(), Tenant: number(), Cell: number(), Other: number(), Epoch: number(), From: number(), Until: number(), N: number()}
	}
	for _, p := range states(t) {
		for range 2000 {
			m := api.Message{Kind: number(), From: number(), To: number(), Term: number(), Index: number(), PrevTerm: number(), Commit: number(), OK: random.Intn(2) == 0}
			for range random.Intn(3) {
				m.Entries = append(m.Entries, api.Logged{Term: number(), Entry: entry()})
			}
			p.handle(t, m)
			p.propose(t, entry())
		}
		p.crash(t, number())
	}
}

// A message is neither changed nor kept, nor is what stands behind its entries.
func TestR2HandleLeavesTheMessageAlone(t *testing.T) {
	all := logged(1, 2, 2, 3, 3)
	behind := slices.Clone(all)
	for count := range 4 {
		p := follower(t, 1, 3, 3, 0)
		p.handle(t, appends(0, 1, 3, 0, 0, 9, all[:count]...))
		p.handle(t, appends(0, 1, 3, 0, 0, 9, all[:count]...))
		p.handle(t, appends(0, 1, 4, count, p.m.lastTerm(), 0, logged(4)...))
		if !slices.Equal(all, behind) {
			t.Fatal("Handle changes the entries of a message")
		}
		clear(all)
		if !slices.Equal(p.r.Log()[:count], behind[:count]) {
			t.Fatal("the log changes with the message")
		}
		copy(all, behind)
	}
}

// No two messages share memory, nor does one with the log, nor with the next messages.
func TestR2ResultsAreNewMemory(t *testing.T) {
	log := logged(1, 1, 2)
	made := func() pair {
		p := leader(t, 1, 5, 3, 1, log...)
		p.handle(t, stored(0, 1, 3, true, 0))
		p.handle(t, stored(2, 1, 3, true, 1))
		p.handle(t, stored(3, 1, 3, true, 2))
		return p
	}
	for _, ask := range []func(p pair) []api.Message{
		func(p pair) []api.Message { return p.beat(t) },
		func(p pair) []api.Message { l, _ := p.propose(t, note(9)); return l },
		func(p pair) []api.Message {
			return append(p.handle(t, stored(0, 1, 3, false, 1)), p.handle(t, stored(0, 1, 3, false, 1))...)
		},
	} {
		p := made()
		l := ask(p)
		for i := range l {
			want := ask(made())
			l[i].Entries = l[i].Entries[:cap(l[i].Entries)]
			clear(l[i].Entries)
			for k := i + 1; k < len(l); k++ {
				if !slices.Equal(l[k].Entries, want[k].Entries) {
					t.Errorf("messages %d and %d share memory", i, k)
				}
			}
		}
		p.check(t, "messages are overwritten")
		clear(l[:cap(l)])
		p.beat(t)
	}
	p := made()
	first, second := p.r.Log(), p.r.Log()
	clear(first[:cap(first)])
	if !slices.Equal(second, log) {
		t.Error("two results of Log share memory")
	}
	p.propose(t, note(9))
	p.handle(t, appends(0, 1, 5, 1, 1, 1, logged(5)...))
	if !slices.Equal(second, log) {
		t.Error("a result of Log changes with the replica")
	}
	p.check(t, "a result of Log is overwritten")
}

// Reading changes nothing.
func TestR2ReadingChangesNothing(t *testing.T) {
	for _, p := range states(t) {
		before := p.copy()
		for range 2 {
			for _, i := range append([]int{-1, 0, 1, 9}, far...) {
				p.r.At(i)
			}
			p.r.Copy().Campaign()
			p.r.Copy().Crash(0)
			p.beat(t)
			checkSame(t, p, before)
		}
		p.crash(t, 0)
	}
}

// Calls of several replicas alternate; each of them behaves as if it were alone.
func TestR3ReplicasAreSeparate(t *testing.T) {
	random := rand.New(rand.NewSource(3))
	pairs := []pair{fresh(t, 0, 3), fresh(t, 0, 3), fresh(t, 1, 3), fresh(t, 4, 5)}
	for range 1500 {
		generatedStep(t, random, pairs[random.Intn(len(pairs))])
		for _, p := range pairs {
			p.check(t, "another replica was called")
		}
	}
	expect(t, fresh(t, 0, 3), api.Follower, 0, -1, 0)
}
