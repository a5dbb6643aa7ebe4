package quorum_test

import (
	"math"
	"math/rand"
	"slices"
	"testing"

	"cellplane/api"
	"cellplane/quorum"
)

// history is what has been seen of a quorum so far.
type history struct {
	leaders   map[int]int // by term
	committed []api.Entry
	terms     []int
}

func newHistory(n int) *history { return &history{leaders: map[int]int{}, terms: make([]int, n)} }

// watch checks what must hold behind every act.
func (h *history) watch(t *testing.T, q *quorum.Quorum) {
	t.Helper()
	committed := q.Committed()
	if len(committed) < len(h.committed) || !slices.Equal(committed[:len(h.committed)], h.committed) {
		t.Fatalf("committed was\n%v and is\n%v", h.committed, committed)
	}
	h.committed = committed
	for i := range h.terms {
		h.watchReplica(t, q, i)
		for k := range i {
			checkMatching(t, q.Log(i), q.Log(k))
		}
	}
}

func (h *history) watchReplica(t *testing.T, q *quorum.Quorum, i int) {
	t.Helper()
	if q.Term(i) < h.terms[i] {
		t.Fatalf("the term of replica %d falls from %d to %d", i, h.terms[i], q.Term(i))
	}
	h.terms[i] = q.Term(i)
	if q.Role(i) == api.Leader {
		if other, ok := h.leaders[q.Term(i)]; ok && other != i {
			t.Fatalf("replicas %d and %d lead in term %d", other, i, q.Term(i))
		}
		h.leaders[q.Term(i)] = i
	}
	if q.Commit(i) > len(h.committed) || q.Commit(i) > len(q.Log(i)) {
		t.Fatalf("the commit index of replica %d is %d, but %d are committed, and its log has %d", i, q.Commit(i), len(h.committed), len(q.Log(i)))
	}
	for k, l := range q.Log(i)[:q.Commit(i)] {
		if l.Entry != h.committed[k] {
			t.Fatalf("entry %d of replica %d is %v, but %v is committed", k, i, l, h.committed[k])
		}
	}
}

// checkMatching checks that two logs which have an entry of one index and term are the same up to it.
func checkMatching(t *testing.T, x, y []api.Logged) {
	t.Helper()
	for i := min(len(x), len(y)) - 1; i >= 0; i-- {
		if x[i].Term == y[i].Term {
			if !slices.Equal(x[:i+1], y[:i+1]) {
				t.Fatalf("two logs are\n%v and\n%v", x, y)
			}
			return
		}
	}
}

// generated returns an act for a quorum with n replicas and a number of messages in flight, mostly one that is possible.
func generated(random *rand.Rand, n, size int) api.NetAct {
	a := api.NetAct{Who: random.Intn(n), N: random.Intn(size + 1), Entry: note(random.Intn(1000) - 10)}
	if random.Intn(3) == 0 {
		a.N = 0
	}
	switch k := random.Intn(60); {
	case k < 1:
		a.Kind = api.ActCampaign
	case k < 14:
		a.Kind = api.ActPropose
	case k < 19:
		a.Kind = api.ActBeat
	case k < 48:
		a.Kind = api.ActDeliver
	case k < 53:
		a.Kind = api.ActRepeat
	case k < 58:
		a.Kind = api.ActDrop
	case k < 59:
		a.Kind = api.ActCrash
	default:
		a = api.NetAct{Kind: random.Intn(10) - 1, Who: random.Intn(n+2) - 1, N: random.Intn(size+2) - 1}
	}
	return a
}

// generatedStep makes an act of a quorum, or flushes it.
func generatedStep(t *testing.T, random *rand.Rand, p pair) {
	t.Helper()
	if random.Intn(50) == 0 {
		p.flush(t, random.Intn(1<<len(p.m.replicas)))
		return
	}
	p.try(t, generated(random, len(p.m.replicas), len(p.m.net)))
}

func TestP101P102P103P104GeneratedRuns(t *testing.T) {
	for run := range int64(60) {
		random := rand.New(rand.NewSource(run))
		n := []int{1, 3, 5}[run%3]
		p := fresh(t, n)
		h := newHistory(n)
		for range 150 {
			generatedStep(t, random, p)
			h.watch(t, p.q)
		}
	}
}

// With few messages that are delivered the net is full nearly all the time.
func TestP101P102GeneratedRunsOfFullNets(t *testing.T) {
	for run := range int64(6) {
		random := rand.New(rand.NewSource(run))
		n := []int{3, 5}[run%2]
		p := led(t, n, 0)
		for len(p.m.net) < api.MaxNet-1 {
			p.do(t, beat(0))
		}
		for range 120 {
			a := generated(random, n, len(p.m.net))
			if a.Kind == api.ActDrop && random.Intn(3) > 0 {
				a = beat(p.q.Leader())
			}
			p.try(t, a)
		}
	}
}

// Long runs without a model, for what must hold in them.
func TestConsequences(t *testing.T) {
	leaders, committed := 0, 0
	for run := range int64(100) {
		random := rand.New(rand.NewSource(run + 1000))
		n := []int{3, 5}[run%2]
		q, _ := quorum.New(n)
		h := newHistory(n)
		for range 500 {
			if random.Intn(60) == 0 {
				q.Flush(random.Intn(1 << n))
			} else {
				q.Do(generated(random, n, len(q.Net())))
			}
			h.watch(t, q)
		}
		leaders += len(h.leaders)
		committed += len(h.committed)
	}
	// The runs are worth something only if there is much to agree on.
	if leaders < 200 || committed < 500 {
		t.Errorf("the runs have %d leaders and %d committed entries", leaders, committed)
	}
}

// best returns the replica of a set whose log is at least as good as those of all others of it.
func best(q *quorum.Quorum, n, up int) int {
	last := func(i int) int {
		l := q.Log(i)
		if len(l) == 0 {
			return 0
		}
		return l[len(l)-1].Term
	}
	out := -1
	for i := range n {
		if up>>i&1 == 1 && (out < 0 || last(i) > last(out) || last(i) == last(out) && len(q.Log(i)) >= len(q.Log(out))) {
			out = i
		}
	}
	return out
}

// Whatever has been, each majority goes on: its best replica leads after two campaigns, and commits what it proposes.
func TestConsequencesOfAMajority(t *testing.T) {
	for run := range int64(40) {
		random := rand.New(rand.NewSource(run + 2000))
		n := []int{1, 3, 5}[run%3]
		q, _ := quorum.New(n)
		for range 200 {
			q.Do(generated(random, n, len(q.Net())))
		}
		for up := range 1 << n {
			members := 0
			for i := range n {
				members += up >> i & 1
			}
			c := q.Copy()
			if 2*members > n {
				// What is still in flight may change which log is the best one.
				c.Flush(up)
				checkGoesOn(t, c, best(c, n, up), up)
			}
		}
	}
}

// checkGoesOn checks that a replica leads after two campaigns, and commits an entry.
func checkGoesOn(t *testing.T, q *quorum.Quorum, i, up int) {
	t.Helper()
	for range 2 {
		q.Do(campaign(i))
		q.Flush(up)
	}
	if q.Role(i) != api.Leader {
		t.Fatalf("replica %d of the set %d does not lead", i, up)
	}
	size := len(q.Log(i))
	if e := q.Do(propose(i, 4321)); e != api.OK {
		t.Fatalf("a leader's proposal is error %d", e)
	}
	q.Flush(up)
	if l := q.Committed(); len(l) != size+1 || l[size] != note(4321) || q.Commit(i) != size+1 {
		t.Fatalf("of %d entries of replica %d of the set %d, %d are committed", size+1, i, up, len(l))
	}
}

// The best replica of a minority never leads, and commits nothing.
func TestConsequencesOfAMinority(t *testing.T) {
	for _, n := range []int{3, 5} {
		p := led(t, n, 0)
		p.do(t, propose(0, 1))
		p.flush(t, -1)
		for up := range 1 << n {
			members := 0
			for i := range n {
				members += up >> i & 1
			}
			if 2*members > n {
				continue
			}
			c := p.copy()
			for i := n - 1; i >= 0; i-- {
				c.do(t, campaign(i))
				c.flush(t, up)
				c.try(t, propose(i, 2))
				c.flush(t, up)
			}
			if c.q.Leader() != -1 || len(c.q.Committed()) != 1 {
				t.Errorf("the set %d of %d: leader %d, committed %v", up, n, c.q.Leader(), c.q.Committed())
			}
		}
	}
}

// acts are steps that change something.
func acts(t *testing.T) []func(p pair) {
	return []func(p pair){
		func(p pair) { p.do(t, campaign(1)) },
		func(p pair) { p.try(t, propose(0, 77)); p.try(t, propose(0, 78)) },
		func(p pair) { p.try(t, propose(0, 99)) },
		func(p pair) { p.try(t, deliver(0)) },
		func(p pair) { p.try(t, repeat(1)) },
		func(p pair) { p.try(t, drop(0)); p.try(t, drop(1)) },
		func(p pair) { p.do(t, crash(0, 0)) },
		func(p pair) { p.flush(t, 7) },
		func(p pair) { p.flush(t, 0); p.do(t, campaign(2), campaign(2)); p.flush(t, 6) },
	}
}

// states are quorums in which there is something to change.
func states(t *testing.T) []pair {
	empty := fresh(t, 3)
	asked := fresh(t, 3)
	asked.do(t, campaign(0))
	proposed := led(t, 3, 0)
	proposed.do(t, propose(0, 1), propose(0, 2), propose(0, 3))
	committed := proposed.copy()
	committed.do(t, repeat(0))
	committed.do(t, deliver(6), deliver(2))
	filled := proposed.copy()
	for len(filled.m.net) < api.MaxNet {
		filled.do(t, beat(0))
	}
	done := proposed.copy()
	done.flush(t, 7)
	return []pair{empty, asked, proposed, committed, filled, done}
}

// What becomes of a quorum leaves its copies as they are, and the other way round.
func TestP101CopyIsIndependent(t *testing.T) {
	for _, p := range states(t) {
		for _, first := range acts(t) {
			for _, second := range acts(t) {
				changed, still := p.copy(), p.copy()
				changed.check(t, "a copy")
				first(changed)
				still.check(t, "a copy of the same quorum")
				second(still)
				changed.check(t, "another copy")
				p.check(t, "the quorum itself")
				changed.flush(t, 7)
				still.flush(t, 7)
				changed.check(t, "its copy was flushed")
			}
		}
	}
}

// A quorum may be changed when its copy is made, which does not change with it.
func TestP101CopyStays(t *testing.T) {
	for k := range states(t) {
		for _, act := range acts(t) {
			p := states(t)[k]
			c := p.copy()
			act(p)
			c.check(t, "a copy")
			act(c)
			c.expectSame(t, p)
			p.flush(t, 7)
			c.flush(t, 7)
			c.expectSame(t, p)
		}
	}
}

func TestR1AnyNumbers(t *testing.T) {
	random := rand.New(rand.NewSource(1))
	numbers := append([]int{-2, -1, 0, 1, 2, 3, 4, 5, 6, 7, 8, 31, 63, 64, 255, 256, api.MaxTick, api.MaxEntries}, far...)
	number := func() int { return numbers[random.Intn(len(numbers))] }
	for _, p := range states(t) {
		for range 1000 {
			e := api.Entry{Kind: number(), Tick: number(), Tenant: number(), Cell: number(), Other: number(), Epoch: number(), From: number(), Until: number(), N: number()}
			p.try(t, api.NetAct{Kind: number(), Who: number(), N: number(), Entry: e})
			if random.Intn(10) == 0 {
				p.flush(t, number())
			}
			i := number()
			p.q.Role(i)
			p.q.Term(i)
			p.q.Commit(i)
			p.q.Log(i)
		}
	}
	for _, n := range numbers {
		quorum.New(n)
	}
	p := led(t, 3, 0)
	for _, up := range []int{math.MinInt, math.MaxInt, -1, 0} {
		p.do(t, beat(0))
		p.flush(t, up)
	}
}

// No two results share memory, nor does one with the quorum; nor do the messages of one result.
func TestR2ResultsAreNewMemory(t *testing.T) {
	for _, p := range states(t) {
		first, second := p.q.Net(), p.q.Net()
		for i := range first {
			entries := first[i].Entries
			clear(entries[:cap(entries)])
			if !equal(first[i+1:], p.m.net[i+1:]) {
				t.Fatalf("message %d of the net shares memory with another one", i)
			}
		}
		clear(first[:cap(first)])
		if !equal(second, p.m.net) {
			t.Error("two results of Net share memory")
		}
		committed, again := p.q.Committed(), p.q.Committed()
		clear(committed[:cap(committed)])
		if !slices.Equal(again, p.m.committed) {
			t.Error("two results of Committed share memory")
		}
		log, another := p.q.Log(0), p.q.Log(0)
		clear(log[:cap(log)])
		if !slices.Equal(another, p.m.replicas[0].Log()) {
			t.Error("two results of Log share memory")
		}
		p.check(t, "results are overwritten")
		p.flush(t, 7)
	}
}

// A result stays as it is when the quorum changes.
func TestR2ResultsStay(t *testing.T) {
	for _, p := range states(t) {
		for _, act := range acts(t) {
			c := p.copy()
			net, committed, log := c.q.Net(), c.q.Committed(), c.q.Log(0)
			act(c)
			c.flush(t, 7)
			if !equal(net, p.m.net) || !slices.Equal(committed, p.m.committed) || !slices.Equal(log, p.q.Log(0)) {
				t.Error("a result changes with the quorum")
			}
		}
	}
}

// Reading changes nothing.
func TestR2ReadingChangesNothing(t *testing.T) {
	for _, p := range states(t) {
		for range 2 {
			for _, i := range append([]int{-1, 0, 1, 2, 3}, far...) {
				p.q.Role(i)
				p.q.Term(i)
				p.q.Commit(i)
				p.q.Log(i)
			}
			c := p.q.Copy()
			c.Do(campaign(2))
			c.Flush(7)
			p.check(t, "a quorum that was read")
		}
		p.flush(t, 7)
	}
}

// Calls of several quorums alternate; each of them behaves as if it were alone.
func TestR3QuorumsAreSeparate(t *testing.T) {
	random := rand.New(rand.NewSource(3))
	pairs := []pair{fresh(t, 3), fresh(t, 3), fresh(t, 1), fresh(t, 5)}
	for range 400 {
		generatedStep(t, random, pairs[random.Intn(len(pairs))])
		for _, p := range pairs {
			p.check(t, "another quorum was called")
		}
	}
	p := fresh(t, 3)
	p.do(t, campaign(0))
	p.expectNet(t, asksVote(0, 1, 1, 0, 0), asksVote(0, 2, 1, 0, 0))
}
