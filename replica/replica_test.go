package replica_test

import (
	"math"
	"slices"
	"testing"

	"cellplane/api"
	"cellplane/replica"
)

// note returns a note, and place an entry that uses more fields than a note.
func note(n int) api.Entry {
	return api.Entry{Kind: api.EntryNote, Tenant: -1, Cell: -1, Other: -1, N: n}
}

func place(tick int) api.Entry {
	return api.Entry{Kind: api.EntryPlace, Tick: tick, Tenant: 3, Cell: 6, Other: -1}
}

// logged returns notes with terms, numbered from 1 on.
func logged(terms ...int) []api.Logged {
	var out []api.Logged
	for i, term := range terms {
		out = append(out, api.Logged{Term: term, Entry: note(i + 1)})
	}
	return out
}

// otherLogged returns notes with terms that are not those of logged.
func otherLogged(terms ...int) []api.Logged {
	out := logged(terms...)
	for i := range out {
		out[i].Entry = place(i + 1)
	}
	return out
}

// The messages that a replica sends, without those of their fields that are zero.

func asksVote(from, to, term, index, prev int) api.Message {
	return api.Message{Kind: api.MsgVote, From: from, To: to, Term: term, Index: index, PrevTerm: prev}
}

func voted(from, to, term int, ok bool) api.Message {
	return api.Message{Kind: api.MsgVoted, From: from, To: to, Term: term, OK: ok}
}

func appends(from, to, term, index, prev, commit int, entries ...api.Logged) api.Message {
	return api.Message{Kind: api.MsgAppend, From: from, To: to, Term: term, Index: index, PrevTerm: prev, Commit: commit, Entries: entries}
}

func stored(from, to, term int, ok bool, index int) api.Message {
	return api.Message{Kind: api.MsgStored, From: from, To: to, Term: term, OK: ok, Index: index}
}

// another returns the number of another replica.
func (p pair) another() int { return p.m.others()[0] }

// follower returns a follower with a term, without a vote, with a log and a commit index.
func follower(t *testing.T, id, n, term, commit int, log ...api.Logged) pair {
	t.Helper()
	p := fresh(t, id, n)
	if term > 0 {
		p.handle(t, appends(p.another(), id, term, 0, 0, commit, log...))
	}
	expect(t, p, api.Follower, term, -1, commit, log...)
	return p
}

// candidate returns a candidate in a term, with its own vote alone.
func candidate(t *testing.T, id, n, term, commit int, log ...api.Logged) pair {
	t.Helper()
	p := follower(t, id, n, term-1, commit, log...)
	p.campaign(t)
	expect(t, p, api.Candidate, term, id, commit, log...)
	return p
}

// leader returns a leader that has been elected right now.
func leader(t *testing.T, id, n, term, commit int, log ...api.Logged) pair {
	t.Helper()
	p := candidate(t, id, n, term, commit, log...)
	for _, from := range p.m.others()[:n/2] {
		p.handle(t, voted(from, id, term, true))
	}
	expect(t, p, api.Leader, term, id, commit, log...)
	return p
}

// expect compares a replica with values.
func expect(t *testing.T, p pair, role, term, vote, commit int, log ...api.Logged) {
	t.Helper()
	got, want := [5]int{p.r.Role(), p.r.Term(), p.r.Vote(), p.r.Commit(), p.r.Len()}, [5]int{role, term, vote, commit, len(log)}
	if got != want {
		t.Fatalf("role, term, vote, commit and length are %v, not %v", got, want)
	}
	if got := p.r.Log(); !slices.Equal(got, log) {
		t.Fatalf("the log is %v, not %v", got, log)
	}
}

// expectMessages compares messages with values.
func expectMessages(t *testing.T, got []api.Message, want ...api.Message) {
	t.Helper()
	if !equal(got, want) {
		t.Fatalf("the messages are\n%v, not\n%v", got, want)
	}
}

// far are numbers that are out of every range.
var far = []int{math.MinInt, -1 << 32, -1 << 31, 1 << 31, 1 << 32, 1<<32 + 1, math.MaxInt}

func TestP91New(t *testing.T) {
	numbers := append([]int{-5, -3, -2, -1, 0, 1, 2, 3, 4, 5, 6, 7, 9}, far...)
	for _, n := range numbers {
		for _, id := range numbers {
			r, e := replica.New(id, n)
			if !(n == 1 || n == 3 || n == 5) || id < 0 || id >= n {
				if r != nil || e != api.ErrArg {
					t.Errorf("New(%d, %d) is %v, error %d", id, n, r, e)
				}
				continue
			}
			if r == nil || e != api.OK {
				t.Fatalf("New(%d, %d) is error %d", id, n, e)
			}
			expect(t, pair{r: r}, api.Follower, 0, -1, 0)
		}
	}
}

func TestP91Reads(t *testing.T) {
	log := []api.Logged{{Term: 1, Entry: note(7)}, {Term: 1, Entry: place(8)}, {Term: 3, Entry: note(9)}}
	p := follower(t, 2, 5, 4, 2, log...)
	p.handle(t, asksVote(3, 2, 6, 3, 3))
	if p.r.Role() != api.Follower || p.r.Term() != 6 || p.r.Vote() != 3 || p.r.Commit() != 2 || p.r.Len() != 3 || !slices.Equal(p.r.Log(), log) {
		t.Errorf("role %d, term %d, vote %d, commit %d, length %d, log %v", p.r.Role(), p.r.Term(), p.r.Vote(), p.r.Commit(), p.r.Len(), p.r.Log())
	}
	for i, want := range log {
		if got, ok := p.r.At(i); !ok || got != want {
			t.Errorf("At(%d) is %v, %v, not %v", i, got, ok, want)
		}
	}
	for _, i := range append([]int{-2, -1, 3, 4, api.MaxEntries}, far...) {
		if got, ok := p.r.At(i); ok || got != (api.Logged{}) {
			t.Errorf("At(%d) is %v, %v", i, got, ok)
		}
	}
}

func TestP92Campaign(t *testing.T) {
	for _, n := range []int{3, 5} {
		for id := range n {
			p := fresh(t, id, n)
			var want []api.Message
			for to := range n {
				if to != id {
					want = append(want, api.Message{Kind: api.MsgVote, From: id, To: to, Term: 1})
				}
			}
			expectMessages(t, p.campaign(t), want...)
			expect(t, p, api.Candidate, 1, id, 0)
		}
	}
}

// A candidate tells of its log; of its commit index it does not.
func TestP92CampaignTellsOfTheLog(t *testing.T) {
	log := logged(1, 2, 2)
	p := follower(t, 1, 3, 4, 2, log...)
	expectMessages(t, p.campaign(t), asksVote(1, 0, 5, 3, 2), asksVote(1, 2, 5, 3, 2))
	expect(t, p, api.Candidate, 5, 1, 2, log...)
	p = follower(t, 3, 5, 7, 1, logged(7)...)
	expectMessages(t, p.campaign(t), asksVote(3, 0, 8, 1, 7), asksVote(3, 1, 8, 1, 7), asksVote(3, 2, 8, 1, 7), asksVote(3, 4, 8, 1, 7))
}

// Candidates and leaders campaign, too; the vote that they gave in the term before does not matter, and those they had are forgotten.
func TestP92CampaignAgain(t *testing.T) {
	p := candidate(t, 0, 5, 3, 0, logged(1)...)
	p.handle(t, voted(1, 0, 3, true))
	p.campaign(t)
	expect(t, p, api.Candidate, 4, 0, 0, logged(1)...)
	expectMessages(t, p.handle(t, voted(2, 0, 4, true)))
	expect(t, p, api.Candidate, 4, 0, 0, logged(1)...)
	expectMessages(t, p.handle(t, voted(1, 0, 4, true)), appends(0, 1, 4, 1, 1, 0), appends(0, 2, 4, 1, 1, 0), appends(0, 3, 4, 1, 1, 0), appends(0, 4, 4, 1, 1, 0))
	expectMessages(t, p.campaign(t), asksVote(0, 1, 5, 1, 1), asksVote(0, 2, 5, 1, 1), asksVote(0, 3, 5, 1, 1), asksVote(0, 4, 5, 1, 1))
	expect(t, p, api.Candidate, 5, 0, 0, logged(1)...)
	expectMessages(t, p.beat(t))
	p = follower(t, 0, 3, 3, 0)
	p.handle(t, asksVote(2, 0, 3, 0, 0))
	expect(t, p, api.Follower, 3, 2, 0)
	p.campaign(t)
	expect(t, p, api.Candidate, 4, 0, 0)
}

func TestP92CampaignAlone(t *testing.T) {
	p := fresh(t, 0, 1)
	for term := range 3 {
		expectMessages(t, p.campaign(t))
		expect(t, p, api.Leader, term+1, 0, 0)
	}
	p.propose(t, note(1))
	p.crash(t, 0)
	expectMessages(t, p.campaign(t))
	expect(t, p, api.Leader, 4, 0, 0, api.Logged{Term: 3, Entry: note(1)})
	expectMessages(t, p.beat(t))
}

// In the last term nobody campaigns, and nothing changes.
func TestP92CampaignInTheLastTerm(t *testing.T) {
	p := follower(t, 1, 3, api.MaxTick-1, 1, logged(1)...)
	expectMessages(t, p.campaign(t), asksVote(1, 0, api.MaxTick, 1, 1), asksVote(1, 2, api.MaxTick, 1, 1))
	expectMessages(t, p.campaign(t))
	expect(t, p, api.Candidate, api.MaxTick, 1, 1, logged(1)...)
	c := p.copy()
	c.handle(t, voted(0, 1, api.MaxTick, true))
	expectMessages(t, c.campaign(t))
	expect(t, c, api.Leader, api.MaxTick, 1, 1, logged(1)...)
	for range 2 {
		p = follower(t, 1, 3, api.MaxTick, 1, logged(1)...)
		expectMessages(t, p.campaign(t))
		expect(t, p, api.Follower, api.MaxTick, -1, 1, logged(1)...)
	}
}

// Votes that were given before a second campaign which does nothing still count.
func TestP92CampaignInTheLastTermKeepsVotes(t *testing.T) {
	p := candidate(t, 0, 5, api.MaxTick, 0)
	p.handle(t, voted(1, 0, api.MaxTick, true))
	p.campaign(t)
	p.handle(t, voted(2, 0, api.MaxTick, true))
	expect(t, p, api.Leader, api.MaxTick, 0, 0)
}

func TestP93ProposeErrors(t *testing.T) {
	full := slices.Repeat(logged(1), api.MaxEntries)
	wrong := []api.Entry{{}, note(-1), note(api.MaxTick + 1), {Kind: 17, Tenant: -1, Cell: -1, Other: -1}, {Kind: api.EntryNote}}
	for _, p := range []pair{
		fresh(t, 0, 1), fresh(t, 0, 3), follower(t, 1, 3, 2, 1, logged(1, 2)...), follower(t, 2, 3, 2, 1, full...),
		candidate(t, 1, 3, 2, 1, logged(1)...), candidate(t, 4, 5, 2, 0, full...),
	} {
		for _, e := range append(wrong, note(1), place(2)) {
			if l, failed := p.propose(t, e); l != nil || failed != api.ErrState {
				t.Errorf("Propose(%v) of role %d is %v, error %d", e, p.r.Role(), l, failed)
			}
		}
	}
	alone := fresh(t, 0, 1)
	alone.campaign(t)
	for _, p := range []pair{alone, leader(t, 1, 3, 2, 0), leader(t, 0, 3, 4, 1, logged(1, 2)...), leader(t, 3, 5, 2, 1, full...)} {
		for _, e := range wrong {
			if l, failed := p.propose(t, e); l != nil || failed != api.ErrArg {
				t.Errorf("Propose(%v) is %v, error %d", e, l, failed)
			}
		}
	}
}

func TestP93ProposeLimit(t *testing.T) {
	log := slices.Repeat(logged(1), api.MaxEntries-1)
	p := leader(t, 0, 3, 2, 0, log...)
	if _, failed := p.propose(t, note(5)); failed != api.OK {
		t.Fatalf("the last entry is error %d", failed)
	}
	for range 2 {
		if l, failed := p.propose(t, note(6)); l != nil || failed != api.ErrLimit {
			t.Errorf("an entry too many is %v, error %d", l, failed)
		}
	}
	expect(t, p, api.Leader, 2, 0, 0, append(log, api.Logged{Term: 2, Entry: note(5)})...)
}

// After an error the leader goes on as if it had not been asked.
func TestP93ProposeErrorChangesNothing(t *testing.T) {
	p := leader(t, 0, 3, 2, 0, logged(1)...)
	p.propose(t, note(-1))
	l, _ := p.propose(t, note(9))
	e := api.Logged{Term: 2, Entry: note(9)}
	expectMessages(t, l, appends(0, 1, 2, 1, 1, 0, e), appends(0, 2, 2, 1, 1, 0, e))
	expect(t, p, api.Leader, 2, 0, 0, logged(1)[0], e)
	p.propose(t, api.Entry{})
	p.crash(t, 0)
	expect(t, p, api.Follower, 2, 0, 0, logged(1)[0], e)
}

func TestP93ProposeAlone(t *testing.T) {
	p := fresh(t, 0, 1)
	var log []api.Logged
	for term := 1; term <= 3; term++ {
		p.campaign(t)
		for range 2 {
			log = append(log, api.Logged{Term: term, Entry: note(len(log))})
			l, failed := p.propose(t, note(len(log)-1))
			if len(l) != 0 || failed != api.OK {
				t.Errorf("Propose is %v, error %d", l, failed)
			}
			expect(t, p, api.Leader, term, 0, len(log), log...)
		}
	}
	// A crash forgets the commits; the next entry of a new term brings all of them back.
	p.crash(t, 0)
	p.campaign(t)
	expect(t, p, api.Leader, 4, 0, 0, log...)
	p.propose(t, place(1))
	expect(t, p, api.Leader, 4, 0, 7, append(log, api.Logged{Term: 4, Entry: place(1)})...)
}

// Each of the others is sent what it lacks.
func TestP93ProposeAndBeatSendEachOtherItsOwn(t *testing.T) {
	log := append(logged(1, 1, 2), api.Logged{Term: 4, Entry: note(4)}, api.Logged{Term: 4, Entry: note(5)})
	p := leader(t, 2, 5, 4, 1, log[:3]...)
	p.propose(t, note(4))
	p.handle(t, stored(0, 2, 4, true, 4))
	p.handle(t, stored(1, 2, 4, false, 2))
	p.handle(t, stored(1, 2, 4, false, 0))
	p.handle(t, stored(3, 2, 4, false, 2))
	l, _ := p.propose(t, note(5))
	want := []api.Message{
		appends(2, 0, 4, 4, 4, 1, log[4:]...), appends(2, 1, 4, 0, 0, 1, log...), appends(2, 3, 4, 2, 1, 1, log[2:]...), appends(2, 4, 4, 3, 2, 1, log[3:]...),
	}
	expectMessages(t, l, want...)
	expectMessages(t, p.beat(t), want...)
	expectMessages(t, p.beat(t), want...)
	p.handle(t, stored(3, 2, 4, true, 5))
	expect(t, p, api.Leader, 4, 2, 4, log...)
	expectMessages(t, p.beat(t), appends(2, 0, 4, 4, 4, 4, log[4:]...), appends(2, 1, 4, 0, 0, 4, log...), appends(2, 3, 4, 5, 4, 4), appends(2, 4, 4, 3, 2, 4, log[3:]...))
}

func TestP93BeatIsForLeaders(t *testing.T) {
	for _, p := range []pair{fresh(t, 0, 1), fresh(t, 0, 3), follower(t, 1, 3, 2, 1, logged(1)...), candidate(t, 1, 3, 2, 0, logged(1)...), candidate(t, 1, 5, 2, 0)} {
		if l := p.beat(t); l != nil {
			t.Errorf("Beat of role %d is %v", p.r.Role(), l)
		}
	}
	p := leader(t, 1, 3, 2, 1, logged(1, 1)...)
	expectMessages(t, p.beat(t), appends(1, 0, 2, 2, 1, 1), appends(1, 2, 2, 2, 1, 1))
	p.handle(t, asksVote(0, 1, 3, 0, 0))
	if l := p.beat(t); l != nil {
		t.Errorf("Beat of a leader that was is %v", l)
	}
}

// states returns replicas in many states.
func states(t *testing.T) []pair {
	t.Helper()
	alone := fresh(t, 0, 1)
	alone.campaign(t)
	alone.propose(t, note(1))
	voter := follower(t, 1, 3, 3, 1, logged(1, 2)...)
	voter.handle(t, asksVote(2, 1, 3, 2, 2))
	half := candidate(t, 1, 5, 3, 0, logged(1, 2)...)
	half.handle(t, voted(3, 1, 3, true))
	busy := leader(t, 1, 3, 3, 1, logged(1, 2)...)
	busy.propose(t, note(3))
	busy.propose(t, note(4))
	busy.handle(t, stored(0, 1, 3, true, 3))
	back := leader(t, 1, 5, 3, 0, logged(1, 1, 2, 2)...)
	back.propose(t, note(5))
	back.handle(t, stored(0, 1, 3, true, 5))
	back.handle(t, stored(2, 1, 3, false, 3))
	back.handle(t, stored(3, 1, 3, true, 2))
	crashed := busy.copy()
	crashed.crash(t, 0)
	down := busy.copy()
	down.handle(t, asksVote(0, 1, 4, 0, 0))
	return []pair{
		fresh(t, 1, 3), alone, voter, follower(t, 1, 3, 3, 2, logged(1, 2, 2)...), candidate(t, 1, 3, 3, 1, logged(1, 2)...), half,
		leader(t, 1, 3, 3, 1, logged(1, 2)...), busy, back, crashed, down,
	}
}

func TestP94Improper(t *testing.T) {
	type change func(m *api.Message, n int)
	changes := map[string]struct {
		change change
		wrong  []int
	}{
		"kind":     {func(m *api.Message, n int) { m.Kind = n }, []int{-1, 0, 5, 6}},
		"term":     {func(m *api.Message, n int) { m.Term = n }, []int{-1, 0, api.MaxTick + 1}},
		"index":    {func(m *api.Message, n int) { m.Index = n; m.PrevTerm = min(max(n, 0), 1) }, []int{-1, api.MaxEntries + 1}},
		"PrevTerm": {func(m *api.Message, n int) { m.PrevTerm = n }, []int{-1, 10, 11, api.MaxTick}},
		"commit":   {func(m *api.Message, n int) { m.Commit = n }, []int{-1, api.MaxEntries + 1}},
		"from":     {func(m *api.Message, n int) { m.From = n }, []int{-1, 1, 5, 6}},
		"to":       {func(m *api.Message, n int) { m.To = n }, []int{-1, 0, 2, 5}},
	}
	for _, p := range states(t) {
		for kind := api.MsgVote; kind <= api.MsgStored; kind++ {
			m := api.Message{Kind: kind, From: 0, To: 1, Term: 9, Index: 2, PrevTerm: 2, OK: true}
			if c := p.copy(); c.m.n > 1 {
				c.handle(t, m)
				if c.r.Term() != 9 {
					t.Fatalf("the message %v is not proper from the beginning", m)
				}
			}
			for name, c := range changes {
				for _, n := range append(c.wrong, far...) {
					m := m
					c.change(&m, n)
					if name == "from" && n == 5 && p.m.n == 5 || name == "to" && n == p.m.id {
						continue
					}
					before := p.copy()
					if got := p.r.Handle(m); got != nil {
						t.Errorf("a message with the %s %d is answered with %v", name, n, got)
					}
					p.check(t, name, n)
					checkSame(t, p, before)
				}
			}
		}
	}
}

// checkSame checks that two replicas will send the same.
func checkSame(t *testing.T, p, q pair) {
	t.Helper()
	if p.r.Role() != q.r.Role() || !equal(p.r.Beat(), q.r.Beat()) || !equal(p.r.Copy().Campaign(), q.r.Copy().Campaign()) {
		t.Fatal("a replica has changed")
	}
}

// Others are the numbers below n, but the own one.
func TestP94ProperNumbers(t *testing.T) {
	for _, n := range []int{1, 3, 5} {
		for id := range n {
			for from := -1; from <= api.MaxReplicas; from++ {
				for to := -1; to <= api.MaxReplicas; to++ {
					p := fresh(t, id, n)
					got := p.handle(t, asksVote(from, to, 1, 0, 0))
					if to == id && from != id && from >= 0 && from < n {
						expectMessages(t, got, voted(id, from, 1, true))
					} else if got != nil || p.r.Term() != 0 {
						t.Errorf("replica %d of %d answers a message from %d to %d", id, n, from, to)
					}
				}
			}
		}
	}
}

// The greatest and the least values are still proper.
func TestP94ProperLimits(t *testing.T) {
	full := slices.Repeat(logged(1), api.MaxEntries)
	for i, c := range []struct {
		m    api.Message
		want api.Message
	}{
		{asksVote(0, 1, api.MaxTick, api.MaxEntries, api.MaxTick), voted(1, 0, api.MaxTick, true)},
		{asksVote(0, 1, 1, 0, 0), voted(1, 0, 1, true)},
		{asksVote(0, 1, 1, 0, 1), voted(1, 0, 1, true)},
		{asksVote(0, 1, 1, 5, 0), voted(1, 0, 1, true)},
		{api.Message{Kind: api.MsgVote, To: 1, Term: 1, Commit: api.MaxEntries, OK: true, Entries: []api.Logged{{}}}, voted(1, 0, 1, true)},
		{appends(0, 1, 1, 0, 0, api.MaxEntries), stored(1, 0, 1, true, 0)},
		{appends(0, 1, api.MaxTick, 0, 0, 0, full...), stored(1, 0, api.MaxTick, true, api.MaxEntries)},
		{appends(0, 1, api.MaxTick, api.MaxEntries, api.MaxTick, 0), stored(1, 0, api.MaxTick, false, 0)},
		{appends(0, 1, api.MaxTick, 0, 0, 0, logged(1, api.MaxTick)...), stored(1, 0, api.MaxTick, true, 2)},
		{appends(0, 1, 5, api.MaxEntries-1, 5, 0, logged(5)...), stored(1, 0, 5, false, 0)},
	} {
		p := fresh(t, 1, 3)
		got := p.handle(t, c.m)
		if !equal(got, []api.Message{c.want}) {
			t.Errorf("case %d: %v", i, got)
		}
	}
}

// The entries of an append message, and what stands before them.
func TestP94ImproperEntries(t *testing.T) {
	wrong := func(terms ...int) []api.Logged {
		out := logged(terms...)
		out[len(out)-1].Entry.N = -1
		return out
	}
	full := slices.Repeat(logged(2), api.MaxEntries)
	for i, m := range []api.Message{
		appends(0, 1, 9, 0, 1, 0), appends(0, 1, 9, 0, 9, 0), appends(0, 1, 9, 1, 0, 0), appends(0, 1, 9, api.MaxEntries, 0, 0),
		appends(0, 1, 9, 0, 0, 0, append(full, logged(2)...)...), appends(0, 1, 9, 1, 1, 0, full...), appends(0, 1, 9, api.MaxEntries, 2, 0, logged(2)...), appends(0, 1, 9, api.MaxEntries-1, 2, 0, logged(2, 2)...),
		appends(0, 1, 9, 0, 0, 0, wrong(1)...), appends(0, 1, 9, 0, 0, 0, wrong(1, 2, 3)...), appends(0, 1, 9, 0, 0, 0, append(wrong(1), logged(2)...)...), appends(0, 1, 9, 0, 0, 0, api.Logged{Term: 1}),
		appends(0, 1, 9, 0, 0, 0, logged(0)...), appends(0, 1, 9, 0, 0, 0, logged(-1)...), appends(0, 1, 9, 0, 0, 0, logged(math.MinInt)...), appends(0, 1, 9, 0, 0, 0, logged(0, 1)...),
		appends(0, 1, 9, 0, 0, 0, logged(10)...), appends(0, 1, 9, 0, 0, 0, logged(9, 10)...), appends(0, 1, 9, 0, 0, 0, logged(1, math.MaxInt)...),
		appends(0, 1, 9, 0, 0, 0, logged(2, 1)...), appends(0, 1, 9, 0, 0, 0, logged(1, 3, 2)...), appends(0, 1, 9, 0, 0, 0, logged(1, 3, 2, 3)...),
		appends(0, 1, 9, 2, 2, 0, logged(1)...), appends(0, 1, 9, 2, 2, 0, logged(1, 2)...), appends(0, 1, 9, 2, 9, 0, logged(8)...),
	} {
		for _, p := range states(t) {
			before := p.copy()
			if got := p.r.Handle(m); got != nil {
				t.Errorf("case %d is answered with %v", i, got)
			}
			p.check(t, i)
			checkSame(t, p, before)
		}
	}
	p := follower(t, 1, 3, 9, 2, logged(2, 2)...)
	expectMessages(t, p.handle(t, appends(0, 1, 9, 2, 2, 0, logged(2, 3, 3, 9)...)), stored(1, 0, 9, true, 6))
}

// A greater term makes a follower of every replica, whatever the message says besides.
func TestP94GreaterTerm(t *testing.T) {
	for _, p := range states(t) {
		if p.m.n == 1 {
			continue
		}
		term := p.r.Term()
		log, commit := p.r.Log(), p.r.Commit()
		for _, m := range []api.Message{voted(0, 1, term+1, true), voted(0, 1, term+1, false), stored(0, 1, term+1, true, 1), stored(0, 1, term+1, false, 1)} {
			c := p.copy()
			expectMessages(t, c.handle(t, m))
			expect(t, c, api.Follower, term+1, -1, commit, log...)
		}
		c := p.copy()
		expectMessages(t, c.handle(t, asksVote(2, 1, term+7, 9, term+7)), voted(1, 2, term+7, true))
		expect(t, c, api.Follower, term+7, 2, commit, log...)
		if len(log) > 0 {
			c = p.copy()
			expectMessages(t, c.handle(t, asksVote(2, 1, term+7, 9, 0)), voted(1, 2, term+7, false))
			expect(t, c, api.Follower, term+7, -1, commit, log...)
		}
		c = p.copy()
		expectMessages(t, c.handle(t, appends(2, 1, api.MaxTick, 0, 0, 9)), stored(1, 2, api.MaxTick, true, 0))
		expect(t, c, api.Follower, api.MaxTick, -1, commit, log...)
	}
}

// Messages of an old term change nothing; two of the kinds are answered with the present term.
func TestP94LesserTerm(t *testing.T) {
	for _, p := range states(t) {
		term := p.r.Term()
		if term < 2 {
			continue
		}
		before := p.copy()
		expectMessages(t, p.handle(t, asksVote(2, 1, term-1, 9, term-1)), voted(1, 2, term, false))
		expectMessages(t, p.handle(t, voted(2, 1, term-1, true)))
		expectMessages(t, p.handle(t, appends(2, 1, term-1, 0, 0, 9, otherLogged(1)...)), stored(1, 2, term, false, 0))
		expectMessages(t, p.handle(t, appends(2, 1, term-1, 9, 1, 9)), stored(1, 2, term, false, 0))
		expectMessages(t, p.handle(t, stored(2, 1, term-1, true, 1)))
		expectMessages(t, p.handle(t, stored(2, 1, term-1, false, 0)))
		checkSame(t, p, before)
	}
}

func TestP94Vote(t *testing.T) {
	log := logged(1, 2, 2)
	free := func() pair { return follower(t, 1, 5, 4, 1, log...) }
	for i, c := range []struct {
		index, prev int
		want        bool
	}{
		{3, 2, true}, {4, 2, true}, {2, 2, false}, {0, 2, false}, {api.MaxEntries, 2, true},
		{3, 1, false}, {api.MaxEntries, 1, false}, {0, 0, false}, {9, 0, false},
		{0, 3, true}, {1, 3, true}, {3, 4, true}, {0, 4, true},
	} {
		for _, term := range []int{4, 5} {
			p := free()
			vote := -1
			if c.want {
				vote = 3
			}
			expectMessages(t, p.handle(t, asksVote(3, 1, term, c.index, c.prev)), voted(1, 3, term, c.want))
			if p.r.Vote() != vote {
				t.Errorf("case %d: the vote is %d, not %d", i, p.r.Vote(), vote)
			}
			expect(t, p, api.Follower, term, vote, 1, log...)
		}
	}
	p := fresh(t, 1, 3)
	expectMessages(t, p.handle(t, asksVote(0, 1, 1, 0, 0)), voted(1, 0, 1, true))
	expect(t, p, api.Follower, 1, 0, 0)
}

// In a term there is one vote; the same replica may be told of it again, but only for a good log.
func TestP94VoteOnce(t *testing.T) {
	log := logged(1, 2)
	p := follower(t, 1, 5, 4, 0, log...)
	for range 2 {
		expectMessages(t, p.handle(t, asksVote(0, 1, 4, 2, 2)), voted(1, 0, 4, true))
		for _, other := range []int{2, 3, 4} {
			expectMessages(t, p.handle(t, asksVote(other, 1, 4, 9, 4)), voted(1, other, 4, false))
		}
		expectMessages(t, p.handle(t, asksVote(0, 1, 4, 1, 2)), voted(1, 0, 4, false))
		expect(t, p, api.Follower, 4, 0, 0, log...)
		p.crash(t, 0)
	}
	expectMessages(t, p.handle(t, asksVote(2, 1, 5, 2, 2)), voted(1, 2, 5, true))
	expect(t, p, api.Follower, 5, 2, 0, log...)
}

// Candidates and leaders have voted for themselves.
func TestP94VoteOfCandidatesAndLeaders(t *testing.T) {
	for _, p := range []pair{candidate(t, 1, 3, 4, 0), leader(t, 1, 3, 4, 0)} {
		role := p.r.Role()
		expectMessages(t, p.handle(t, asksVote(0, 1, 4, 9, 4)), voted(1, 0, 4, false))
		expect(t, p, role, 4, 1, 0)
		expectMessages(t, p.handle(t, asksVote(0, 1, 5, 0, 0)), voted(1, 0, 5, true))
		expect(t, p, api.Follower, 5, 0, 0)
	}
}

func TestP94Voted(t *testing.T) {
	log := logged(1, 1)
	p := candidate(t, 2, 5, 3, 1, log...)
	for _, m := range []api.Message{voted(0, 2, 3, false), voted(1, 2, 2, true), voted(3, 2, 3, true), voted(3, 2, 3, true), voted(3, 2, 3, true), voted(4, 2, 3, false)} {
		expectMessages(t, p.handle(t, m))
		expect(t, p, api.Candidate, 3, 2, 1, log...)
	}
	expectMessages(t, p.handle(t, voted(0, 2, 3, true)), appends(2, 0, 3, 2, 1, 1), appends(2, 1, 3, 2, 1, 1), appends(2, 3, 3, 2, 1, 1), appends(2, 4, 3, 2, 1, 1))
	expect(t, p, api.Leader, 3, 2, 1, log...)
	expectMessages(t, p.handle(t, voted(1, 2, 3, true)))
	expect(t, p, api.Leader, 3, 2, 1, log...)
	p = candidate(t, 0, 3, 1, 0)
	expectMessages(t, p.handle(t, voted(2, 0, 1, true)), appends(0, 1, 1, 0, 0, 0), appends(0, 2, 1, 0, 0, 0))
	for _, p := range []pair{follower(t, 1, 3, 3, 0, log...), fresh(t, 1, 3)} {
		role, vote := p.r.Role(), p.r.Vote()
		expectMessages(t, p.handle(t, voted(0, 1, max(p.r.Term(), 1), true)))
		expect(t, p, role, max(p.r.Term(), 1), vote, 0, p.r.Log()...)
	}
}

// A candidate that has become a follower of its own term counts no votes any more.
func TestP94VotedTooLate(t *testing.T) {
	p := candidate(t, 1, 3, 3, 0)
	p.handle(t, appends(0, 1, 3, 0, 0, 0))
	expectMessages(t, p.handle(t, voted(2, 1, 3, true)))
	expect(t, p, api.Follower, 3, 1, 0)
	p = candidate(t, 1, 3, 3, 0)
	p.crash(t, 0)
	expectMessages(t, p.handle(t, voted(2, 1, 3, true)))
	expect(t, p, api.Follower, 3, 1, 0)
}

// To lead is to know nothing of the others, though an earlier term of the same leader did.
func TestP94LeadingBeginsAnew(t *testing.T) {
	p := leader(t, 0, 5, 2, 0, logged(1)...)
	p.propose(t, note(2))
	p.handle(t, stored(1, 0, 2, true, 2))
	p.handle(t, stored(2, 0, 2, false, 0))
	log := p.r.Log()
	p.campaign(t)
	p.handle(t, voted(3, 0, 3, true))
	expectMessages(t, p.handle(t, voted(4, 0, 3, true)), appends(0, 1, 3, 2, 2, 0), appends(0, 2, 3, 2, 2, 0), appends(0, 3, 3, 2, 2, 0), appends(0, 4, 3, 2, 2, 0))
	p.propose(t, note(3))
	p.handle(t, stored(3, 0, 3, true, 3))
	expect(t, p, api.Leader, 3, 0, 0, append(log, api.Logged{Term: 3, Entry: note(3)})...)
	p.handle(t, stored(4, 0, 3, true, 1))
	expect(t, p, api.Leader, 3, 0, 0, p.r.Log()...)
	// Were it known still that replica 1 has stored two entries, next would stay there.
	p.handle(t, stored(1, 0, 3, true, 0))
	expectMessages(t, p.beat(t)[:1], appends(0, 1, 3, 0, 0, 0, p.r.Log()...))
}

func TestP94Append(t *testing.T) {
	log := logged(1, 2, 2, 4)
	other := otherLogged(1, 2, 3, 3, 4)
	for i, c := range []struct {
		m      api.Message
		want   []api.Message
		log    []api.Logged
		commit int
	}{
		// There is nothing before the first entry to compare.
		{appends(0, 1, 5, 0, 0, 0), []api.Message{stored(1, 0, 5, true, 0)}, log, 2},
		{appends(0, 1, 5, 2, 2, 0), []api.Message{stored(1, 0, 5, true, 2)}, log, 2},
		{appends(0, 1, 5, 4, 4, 0), []api.Message{stored(1, 0, 5, true, 4)}, log, 2},
		// The log is too short.
		{appends(0, 1, 5, 5, 4, 9), []api.Message{stored(1, 0, 5, false, 4)}, log, 2},
		{appends(0, 1, 5, 5, 5, 9, logged(5)...), []api.Message{stored(1, 0, 5, false, 4)}, log, 2},
		{appends(0, 1, 5, 6, 4, 9), []api.Message{stored(1, 0, 5, false, 4)}, log, 2},
		{appends(0, 1, 5, api.MaxEntries, 4, 9), []api.Message{stored(1, 0, 5, false, 4)}, log, 2},
		// The entry before those of the message has another term, a greater one or a lesser one.
		{appends(0, 1, 5, 4, 3, 9, logged(5)...), []api.Message{stored(1, 0, 5, false, 3)}, log, 2},
		{appends(0, 1, 5, 4, 5, 9), []api.Message{stored(1, 0, 5, false, 3)}, log, 2},
		{appends(0, 1, 5, 3, 3, 9), []api.Message{stored(1, 0, 5, false, 2)}, log, 2},
		{appends(0, 1, 5, 1, 2, 9), []api.Message{stored(1, 0, 5, false, 0)}, log, 2},
		// Entries follow.
		{appends(0, 1, 5, 4, 4, 0, other[4]), []api.Message{stored(1, 0, 5, true, 5)}, append(logged(1, 2, 2, 4), other[4]), 2},
		{appends(0, 1, 5, 4, 4, 0, logged(5, 5)...), []api.Message{stored(1, 0, 5, true, 6)}, append(logged(1, 2, 2, 4), logged(5, 5)...), 2},
		// Entries with the terms of those that are there already: the log stays, and so does what follows them.
		{appends(0, 1, 5, 0, 0, 0, other[:2]...), []api.Message{stored(1, 0, 5, true, 2)}, log, 2},
		{appends(0, 1, 5, 1, 1, 0, other[1]), []api.Message{stored(1, 0, 5, true, 2)}, log, 2},
		{appends(0, 1, 5, 3, 2, 0, other[4]), []api.Message{stored(1, 0, 5, true, 4)}, log, 2},
		// Some are there already, and others follow.
		{appends(0, 1, 5, 3, 2, 0, other[4], other[4]), []api.Message{stored(1, 0, 5, true, 5)}, append(logged(1, 2, 2, 4), other[4]), 2},
		// Others are replaced from the first one on that differs, and what followed them is removed.
		{appends(0, 1, 5, 2, 2, 0, other[2:]...), []api.Message{stored(1, 0, 5, true, 5)}, append(logged(1, 2), other[2:]...), 2},
		{appends(0, 1, 5, 2, 2, 0, other[2]), []api.Message{stored(1, 0, 5, true, 3)}, append(logged(1, 2), other[2]), 2},
		{appends(0, 1, 5, 0, 0, 0, other...), []api.Message{stored(1, 0, 5, true, 5)}, append(logged(1, 2), other[2:]...), 2},
		{appends(0, 1, 5, 3, 2, 0, logged(5)...), []api.Message{stored(1, 0, 5, true, 4)}, append(logged(1, 2, 2), logged(5)...), 2},
		// What is committed is not replaced.
		{appends(0, 1, 5, 1, 1, 9, logged(3)...), nil, log, 2},
		{appends(0, 1, 5, 0, 0, 9, logged(2)...), nil, log, 2},
		{appends(0, 1, 5, 0, 0, 9, logged(1, 1, 2, 2)...), nil, log, 2},
		{appends(0, 1, 5, 0, 0, 9, logged(1, 1)...), nil, log, 2},
		// The commit index grows, but not behind the entries that are known to be the leader's.
		{appends(0, 1, 5, 4, 4, 1), []api.Message{stored(1, 0, 5, true, 4)}, log, 2},
		{appends(0, 1, 5, 4, 4, 3), []api.Message{stored(1, 0, 5, true, 4)}, log, 3},
		{appends(0, 1, 5, 4, 4, 4), []api.Message{stored(1, 0, 5, true, 4)}, log, 4},
		{appends(0, 1, 5, 4, 4, api.MaxEntries), []api.Message{stored(1, 0, 5, true, 4)}, log, 4},
		{appends(0, 1, 5, 3, 2, 9), []api.Message{stored(1, 0, 5, true, 3)}, log, 3},
		{appends(0, 1, 5, 1, 1, 9), []api.Message{stored(1, 0, 5, true, 1)}, log, 2},
		{appends(0, 1, 5, 1, 1, 9, other[1]), []api.Message{stored(1, 0, 5, true, 2)}, log, 2},
		{appends(0, 1, 5, 1, 1, 9, logged(2, 2)...), []api.Message{stored(1, 0, 5, true, 3)}, log, 3},
		{appends(0, 1, 5, 2, 2, 9, other[2:]...), []api.Message{stored(1, 0, 5, true, 5)}, append(logged(1, 2), other[2:]...), 5},
		{appends(0, 1, 5, 2, 2, 4, other[2:]...), []api.Message{stored(1, 0, 5, true, 5)}, append(logged(1, 2), other[2:]...), 4},
	} {
		p := follower(t, 1, 3, 5, 2, log...)
		got := p.handle(t, c.m)
		if !equal(got, c.want) {
			t.Errorf("case %d: %v, not %v", i, got, c.want)
		}
		expect(t, p, api.Follower, 5, -1, c.commit, c.log...)
	}
}

// An append message of its own term makes a follower of a candidate, also if its entries are not taken.
func TestP94AppendEndsACampaign(t *testing.T) {
	log := logged(1, 2, 2)
	for i, c := range []struct {
		m    api.Message
		want []api.Message
	}{
		{appends(0, 1, 5, 3, 2, 0), []api.Message{stored(1, 0, 5, true, 3)}},
		{appends(0, 1, 5, 4, 2, 0), []api.Message{stored(1, 0, 5, false, 3)}},
		{appends(0, 1, 5, 2, 1, 0), []api.Message{stored(1, 0, 5, false, 1)}},
		{appends(0, 1, 5, 0, 0, 0, logged(5)...), nil},
	} {
		p := candidate(t, 1, 3, 5, 1, log...)
		got := p.handle(t, c.m)
		if !equal(got, c.want) {
			t.Errorf("case %d: %v, not %v", i, got, c.want)
		}
		expect(t, p, api.Follower, 5, 1, 1, log...)
	}
	p := candidate(t, 1, 3, 5, 1, log...)
	expectMessages(t, p.handle(t, appends(0, 1, 4, 0, 0, 0)), stored(1, 0, 5, false, 0))
	expect(t, p, api.Candidate, 5, 1, 1, log...)
}

// The greater term counts though the entries are not taken: nothing happens but that.
func TestP94AppendOfAGreaterTerm(t *testing.T) {
	log := logged(1, 2)
	for _, p := range []pair{follower(t, 1, 3, 4, 2, log...), candidate(t, 1, 3, 4, 2, log...), leader(t, 1, 3, 4, 2, log...)} {
		expectMessages(t, p.handle(t, appends(2, 1, 6, 0, 0, 9, logged(6, 6)...)))
		expect(t, p, api.Follower, 6, -1, 2, log...)
		expectMessages(t, p.handle(t, appends(2, 1, 7, 9, 7, 9)), stored(1, 2, 7, false, 2))
		expect(t, p, api.Follower, 7, -1, 2, log...)
		expectMessages(t, p.handle(t, appends(2, 1, 8, 2, 2, 9, logged(8)...)), stored(1, 2, 8, true, 3))
		expect(t, p, api.Follower, 8, -1, 3, append(logged(1, 2), logged(8)...)...)
	}
}

// A leader takes no entries in its own term.
func TestP94AppendToALeader(t *testing.T) {
	log := logged(1, 2)
	p := leader(t, 1, 3, 4, 1, log...)
	for _, m := range []api.Message{appends(0, 1, 4, 2, 2, 2), appends(0, 1, 4, 2, 2, 2, logged(4)...), appends(0, 1, 4, 9, 2, 2), appends(0, 1, 4, 0, 0, 2, otherLogged(3)...)} {
		expectMessages(t, p.handle(t, m))
		expect(t, p, api.Leader, 4, 1, 1, log...)
	}
	expectMessages(t, p.handle(t, appends(0, 1, 3, 2, 2, 2)), stored(1, 0, 4, false, 0))
	expect(t, p, api.Leader, 4, 1, 1, log...)
}

// A crash forgets the commit index, so that entries which were committed can be replaced.
func TestP94AppendBehindACrash(t *testing.T) {
	p := follower(t, 1, 3, 4, 2, logged(1, 2)...)
	p.crash(t, 0)
	expectMessages(t, p.handle(t, appends(0, 1, 5, 0, 0, 1, otherLogged(3, 5)...)), stored(1, 0, 5, true, 2))
	expect(t, p, api.Follower, 5, -1, 1, otherLogged(3, 5)...)
}

// Where the commit index is, the log may just be cut.
func TestP94AppendCutsAtTheCommit(t *testing.T) {
	for commit := range 4 {
		p := follower(t, 1, 3, 4, commit, logged(1, 1, 1)...)
		for at := range 3 {
			c := p.copy()
			log := append(logged(1, 1, 1)[:at:at], logged(3)...)
			if at < commit {
				expectMessages(t, c.handle(t, appends(0, 1, 4, 0, 0, 0, log...)))
				expect(t, c, api.Follower, 4, -1, commit, logged(1, 1, 1)...)
				continue
			}
			expectMessages(t, c.handle(t, appends(0, 1, 4, 0, 0, 0, log...)), stored(1, 0, 4, true, at+1))
			expect(t, c, api.Follower, 4, -1, commit, log...)
		}
	}
}

func TestP94AppendFillsTheLog(t *testing.T) {
	full := slices.Concat(slices.Repeat(logged(1), api.MaxEntries-1), logged(3))
	p := follower(t, 1, 3, 2, 0, slices.Repeat(logged(1), api.MaxEntries)...)
	expectMessages(t, p.handle(t, appends(0, 1, 3, 0, 0, api.MaxEntries, full...)), stored(1, 0, 3, true, api.MaxEntries))
	expect(t, p, api.Follower, 3, -1, api.MaxEntries, full...)
	expectMessages(t, p.handle(t, appends(0, 1, 3, api.MaxEntries, 3, api.MaxEntries)), stored(1, 0, 3, true, api.MaxEntries))
}

// A majority that has stored an entry of the present term commits it, and all that are before it.
func TestP94StoredAdvances(t *testing.T) {
	p := leader(t, 0, 3, 3, 0, logged(1, 2)...)
	p.propose(t, note(3))
	p.propose(t, note(4))
	for i, c := range []struct{ from, index, commit int }{{1, 1, 0}, {2, 2, 0}, {1, 2, 0}, {2, 3, 3}, {1, 3, 3}, {2, 1, 3}, {1, 4, 4}} {
		expectMessages(t, p.handle(t, stored(c.from, 0, 3, true, c.index)))
		if p.r.Commit() != c.commit {
			t.Errorf("after answer %d the commit index is %d, not %d", i, p.r.Commit(), c.commit)
		}
	}
	p = leader(t, 4, 5, 2, 0, logged(1)...)
	p.propose(t, note(2))
	p.propose(t, note(3))
	for i, c := range []struct{ from, index, commit int }{{3, 3, 0}, {3, 3, 0}, {1, 1, 0}, {1, 2, 2}, {0, 2, 2}, {2, 3, 3}} {
		expectMessages(t, p.handle(t, stored(c.from, 4, 2, true, c.index)))
		if p.r.Commit() != c.commit {
			t.Errorf("of five: after answer %d the commit index is %d, not %d", i, p.r.Commit(), c.commit)
		}
	}
}

// Entries of earlier terms are committed with one of the present term only.
func TestP94StoredOfEarlierTerms(t *testing.T) {
	p := leader(t, 0, 3, 3, 0, logged(1, 2, 2)...)
	for index := range 4 {
		p.handle(t, stored(1, 0, 3, true, index))
		p.handle(t, stored(2, 0, 3, true, index))
	}
	expect(t, p, api.Leader, 3, 0, 0, logged(1, 2, 2)...)
	p.propose(t, note(4))
	if p.r.Commit() != 0 {
		t.Errorf("the commit index is %d before the entry is stored elsewhere", p.r.Commit())
	}
	p.handle(t, stored(2, 0, 3, true, 4))
	if p.r.Commit() != 4 {
		t.Errorf("the commit index is %d, not 4", p.r.Commit())
	}
}

// What was stored once counts for good; what is sent next begins behind it.
func TestP94StoredSetsNext(t *testing.T) {
	log := append(logged(1, 1), api.Logged{Term: 2, Entry: note(3)}, api.Logged{Term: 2, Entry: note(4)})
	p := leader(t, 0, 3, 2, 0, log[:2]...)
	p.propose(t, note(3))
	p.propose(t, note(4))
	for i, c := range []struct {
		ok           bool
		index, next  int
		prev, commit int
	}{
		{true, 0, 0, 0, 0}, {true, 1, 1, 1, 0}, {true, 3, 3, 2, 3}, {true, 2, 3, 2, 3}, {true, 0, 3, 2, 3}, {true, 5, 3, 2, 3}, {true, api.MaxEntries, 3, 2, 3},
		{false, 1, 1, 1, 3}, {false, 1, 0, 0, 3}, {true, 5, 0, 0, 3}, {true, 2, 3, 2, 3}, {true, 4, 4, 2, 4},
	} {
		p.handle(t, api.Message{Kind: api.MsgStored, From: 1, Term: 2, OK: c.ok, Index: c.index})
		expectMessages(t, p.beat(t)[:1], appends(0, 1, 2, c.next, c.prev, c.commit, log[c.next:]...))
		if p.r.Commit() != c.commit {
			t.Errorf("after answer %d the commit index is %d, not %d", i, p.r.Commit(), c.commit)
		}
	}
}

// A leader goes back by one entry at least, and never in front of the first one.
func TestP94StoredGoesBack(t *testing.T) {
	log := logged(1, 1, 2, 3, 3)
	p := leader(t, 0, 3, 4, 1, log...)
	for _, c := range []struct{ index, next, prev int }{{9, 4, 3}, {4, 3, 2}, {2, 2, 1}, {2, 1, 1}, {api.MaxEntries, 0, 0}, {0, 0, 0}, {5, 0, 0}} {
		expectMessages(t, p.handle(t, stored(2, 0, 4, false, c.index)), appends(0, 2, 4, c.next, c.prev, 1, log[c.next:]...))
		// The other one's next stays.
		expectMessages(t, p.beat(t)[:1], appends(0, 1, 4, 5, 3, 1))
	}
	p = leader(t, 0, 3, 4, 0, log...)
	expectMessages(t, p.handle(t, stored(1, 0, 4, false, 0)), appends(0, 1, 4, 0, 0, 0, log...))
	expect(t, p, api.Leader, 4, 0, 0, log...)
}

func TestP94StoredIsForLeaders(t *testing.T) {
	for _, p := range []pair{follower(t, 1, 3, 3, 0, logged(3)...), candidate(t, 1, 3, 3, 0, logged(2)...)} {
		role, vote, log := p.r.Role(), p.r.Vote(), p.r.Log()
		for _, m := range []api.Message{stored(0, 1, 3, true, 1), stored(0, 1, 3, false, 1), stored(0, 1, 2, true, 1), stored(0, 1, 2, false, 1)} {
			expectMessages(t, p.handle(t, m))
			expect(t, p, role, 3, vote, 0, log...)
		}
	}
	p := leader(t, 1, 3, 3, 0, logged(2)...)
	p.propose(t, note(2))
	for _, m := range []api.Message{stored(0, 1, 2, true, 2), stored(0, 1, 2, false, 0)} {
		expectMessages(t, p.handle(t, m))
		expectMessages(t, p.beat(t)[:1], appends(1, 0, 3, 1, 2, 0, api.Logged{Term: 3, Entry: note(2)}))
	}
	expect(t, p, api.Leader, 3, 1, 0, p.r.Log()...)
}

// All that a call changes is synced: a crash forgets the role and the commit index alone.
func TestP95Crash(t *testing.T) {
	for _, p := range states(t) {
		term, vote, log := p.r.Term(), p.r.Vote(), p.r.Log()
		for _, keep := range append([]int{-1, 0, 1, 9, 1000}, far...) {
			c := p.copy()
			c.crash(t, keep)
			expect(t, c, api.Follower, term, vote, 0, log...)
			c.crash(t, keep)
			expect(t, c, api.Follower, term, vote, 0, log...)
			expectMessages(t, c.beat(t))
			if l, failed := c.propose(t, note(1)); l != nil || failed != api.ErrState {
				t.Errorf("Propose after a crash is %v, error %d", l, failed)
			}
		}
	}
}

// Each call that changes the journal syncs it itself; none leaves this to a later one.
func TestP95EachCallIsSynced(t *testing.T) {
	log := logged(1, 2)
	added := append(logged(1, 2), api.Logged{Term: 4, Entry: note(9)})
	for i, c := range []struct {
		p          pair
		act        func(p pair)
		term, vote int
		log        []api.Logged
	}{
		{fresh(t, 0, 1), func(p pair) { p.campaign(t) }, 1, 0, nil},
		{follower(t, 1, 3, 4, 0, log...), func(p pair) { p.campaign(t) }, 5, 1, log},
		{leader(t, 1, 3, 4, 0, log...), func(p pair) { p.propose(t, note(9)) }, 4, 1, added},
		{leader(t, 1, 3, 4, 0, log...), func(p pair) { p.handle(t, voted(0, 1, 5, true)) }, 5, -1, log},
		{leader(t, 1, 3, 4, 0, log...), func(p pair) { p.handle(t, stored(0, 1, 5, true, 0)) }, 5, -1, log},
		{leader(t, 1, 3, 4, 0, log...), func(p pair) { p.handle(t, asksVote(0, 1, 5, 0, 0)) }, 5, -1, log},
		{leader(t, 1, 3, 4, 0, log...), func(p pair) { p.handle(t, asksVote(0, 1, 5, 2, 2)) }, 5, 0, log},
		{follower(t, 1, 3, 4, 0, log...), func(p pair) { p.handle(t, asksVote(2, 1, 4, 2, 2)) }, 4, 2, log},
		{follower(t, 1, 3, 4, 0, log...), func(p pair) { p.handle(t, appends(2, 1, 4, 2, 2, 0, added[2])) }, 4, -1, added},
		{follower(t, 1, 3, 4, 0, log...), func(p pair) { p.handle(t, appends(2, 1, 4, 0, 0, 0, logged(1, 4)...)) }, 4, -1, logged(1, 4)},
		{follower(t, 1, 3, 4, 0, log...), func(p pair) { p.handle(t, appends(2, 1, 4, 0, 0, 0, logged(3)...)) }, 4, -1, logged(3)},
		{follower(t, 1, 3, 4, 2, log...), func(p pair) { p.handle(t, appends(2, 1, 6, 0, 0, 0, logged(3)...)) }, 6, -1, log},
	} {
		c.act(c.p)
		c.p.crash(t, 0)
		if c.p.r.Term() != c.term || c.p.r.Vote() != c.vote || !slices.Equal(c.p.r.Log(), c.log) {
			t.Errorf("case %d: a crash leaves term %d, vote %d and %v", i, c.p.r.Term(), c.p.r.Vote(), c.p.r.Log())
		}
	}
}

func TestExamples(t *testing.T) {
	p := fresh(t, 0, 1)
	p.campaign(t)
	p.propose(t, note(1))
	if p.r.Commit() != 1 {
		t.Errorf("one replica has the commit index %d", p.r.Commit())
	}
	if l := fresh(t, 0, 3).campaign(t); len(l) != 2 || l[0].Kind != api.MsgVote || l[1].Kind != api.MsgVote || l[0].Term != 1 || l[1].Term != 1 {
		t.Errorf("Campaign returns %v", l)
	}
	if _, e := fresh(t, 0, 3).propose(t, note(1)); e != api.ErrState {
		t.Errorf("Propose of a follower is error %d", e)
	}
}
