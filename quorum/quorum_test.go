package quorum_test

import (
	"math"
	"slices"
	"testing"

	"cellplane/api"
	"cellplane/quorum"
)

// note returns a note.
func note(n int) api.Entry {
	return api.Entry{Kind: api.EntryNote, Tenant: -1, Cell: -1, Other: -1, N: n}
}

// notes returns the notes from first to last.
func notes(first, last int) []api.Entry {
	var out []api.Entry
	for n := first; n <= last; n++ {
		out = append(out, note(n))
	}
	return out
}

// logged returns notes with terms, numbered from 1 on.
func logged(terms ...int) []api.Logged {
	var out []api.Logged
	for i, term := range terms {
		out = append(out, api.Logged{Term: term, Entry: note(i + 1)})
	}
	return out
}

// The seven acts, without the fields that they do not use.

func campaign(i int) api.NetAct { return api.NetAct{Kind: api.ActCampaign, Who: i} }

func propose(i, n int) api.NetAct {
	return api.NetAct{Kind: api.ActPropose, Who: i, Entry: note(n)}
}

func beat(i int) api.NetAct        { return api.NetAct{Kind: api.ActBeat, Who: i} }
func deliver(n int) api.NetAct     { return api.NetAct{Kind: api.ActDeliver, N: n} }
func repeat(n int) api.NetAct      { return api.NetAct{Kind: api.ActRepeat, N: n} }
func drop(n int) api.NetAct        { return api.NetAct{Kind: api.ActDrop, N: n} }
func crash(i, keep int) api.NetAct { return api.NetAct{Kind: api.ActCrash, Who: i, N: keep} }

// The messages that replicas send, without those of their fields that are zero.

func asksVote(from, to, term, index, prev int) api.Message {
	return api.Message{Kind: api.MsgVote, From: from, To: to, Term: term, Index: index, PrevTerm: prev}
}

func voted(from, to, term int, ok bool) api.Message {
	return api.Message{Kind: api.MsgVoted, From: from, To: to, Term: term, OK: ok}
}

func appends(from, to, term, index, prev, commit int, entries ...api.Logged) api.Message {
	return api.Message{Kind: api.MsgAppend, From: from, To: to, Term: term, Index: index, PrevTerm: prev, Commit: commit, Entries: entries}
}

func stored(from, to, term int, ok bool, index int) api.Message {
	return api.Message{Kind: api.MsgStored, From: from, To: to, Term: term, OK: ok, Index: index}
}

// led returns a quorum in which a replica leads in term 1, with an empty net.
func led(t *testing.T, n, leader int) pair {
	t.Helper()
	p := fresh(t, n)
	p.do(t, campaign(leader))
	p.flush(t, 1<<n-1)
	if p.q.Leader() != leader || p.q.Term(leader) != 1 || len(p.q.Net()) != 0 {
		t.Fatalf("replica %d leads in term %d, with %d messages in flight", p.q.Leader(), p.q.Term(leader), len(p.q.Net()))
	}
	return p
}

// expectNet compares the net with messages.
func (p pair) expectNet(t *testing.T, want ...api.Message) {
	t.Helper()
	if got := p.q.Net(); !equal(got, want) {
		t.Fatalf("the net is\n%v, not\n%v", got, want)
	}
}

// expectCommits compares the commit indices of all replicas, and the list of what is committed, with values.
func (p pair) expectCommits(t *testing.T, committed []api.Entry, commits ...int) {
	t.Helper()
	for i, want := range commits {
		if got := p.q.Commit(i); got != want {
			t.Errorf("the commit index of replica %d is %d, not %d", i, got, want)
		}
	}
	if got := p.q.Committed(); !slices.Equal(got, committed) {
		t.Errorf("committed is\n%v, not\n%v", got, committed)
	}
}

// far are numbers that are out of every range.
var far = []int{math.MinInt, -1 << 40, -1 << 32, -1 << 31, 1 << 31, 1 << 32, 1 << 40, math.MaxInt}

func TestP101New(t *testing.T) {
	for _, n := range append([]int{-5, -3, -2, -1, 0, 1, 2, 3, 4, 5, 6, 7, 8, 9}, far...) {
		q, e := quorum.New(n)
		if n != 1 && n != 3 && n != 5 {
			if q != nil || e != api.ErrArg {
				t.Errorf("New(%d) is %v, error %d", n, q, e)
			}
			continue
		}
		if q == nil || e != api.OK {
			t.Fatalf("New(%d) is error %d", n, e)
		}
		if len(q.Net()) != 0 || len(q.Committed()) != 0 || q.Leader() != -1 {
			t.Errorf("New(%d) has the net %v, committed %v, leader %d", n, q.Net(), q.Committed(), q.Leader())
		}
		for i := range n {
			if q.Role(i) != api.Follower || q.Term(i) != 0 || q.Commit(i) != 0 || len(q.Log(i)) != 0 {
				t.Errorf("New(%d): replica %d has role %d, term %d, commit %d, log %v", n, i, q.Role(i), q.Term(i), q.Commit(i), q.Log(i))
			}
		}
	}
}

// Each replica has its own number, and knows how many there are.
func TestP101NewNumbersTheReplicas(t *testing.T) {
	for _, n := range []int{3, 5} {
		for i := range n {
			p := fresh(t, n)
			p.do(t, campaign(i))
			var want []api.Message
			for to := range n {
				if to != i {
					want = append(want, asksVote(i, to, 1, 0, 0))
				}
			}
			p.expectNet(t, want...)
		}
	}
}

func TestP101Reads(t *testing.T) {
	p := led(t, 3, 2)
	p.do(t, propose(2, 1), propose(2, 2))
	p.flush(t, 1<<2|1<<0)
	p.do(t, propose(2, 3), campaign(1), campaign(1))
	for i, want := range [][3]int{{api.Follower, 1, 0}, {api.Candidate, 3, 0}, {api.Leader, 1, 2}} {
		if got := [3]int{p.q.Role(i), p.q.Term(i), p.q.Commit(i)}; got != want {
			t.Errorf("role, term and commit of replica %d are %v, not %v", i, got, want)
		}
	}
	for i, want := range [][]api.Logged{logged(1, 1), nil, logged(1, 1, 1)} {
		if got := p.q.Log(i); !slices.Equal(got, want) {
			t.Errorf("the log of replica %d is %v, not %v", i, got, want)
		}
	}
}

func TestP101NoSuchReplica(t *testing.T) {
	for _, n := range []int{1, 3, 5} {
		p := led(t, n, n-1)
		p.do(t, propose(n-1, 1))
		p.flush(t, -1)
		for _, i := range append([]int{-2, -1, n, n + 1, 64}, far...) {
			if p.q.Role(i) != 0 || p.q.Term(i) != 0 || p.q.Commit(i) != 0 || len(p.q.Log(i)) != 0 {
				t.Errorf("replica %d of %d has role %d, term %d, commit %d, log %v", i, n, p.q.Role(i), p.q.Term(i), p.q.Commit(i), p.q.Log(i))
			}
		}
	}
}

// The net is in the order in which the messages were sent, whoever sends them.
func TestP101NetIsInOrder(t *testing.T) {
	p := fresh(t, 3)
	p.do(t, campaign(1), campaign(0), deliver(1), campaign(1))
	p.expectNet(t, asksVote(1, 0, 1, 0, 0), asksVote(0, 1, 1, 0, 0), asksVote(0, 2, 1, 0, 0), voted(2, 1, 1, true), asksVote(1, 0, 2, 0, 0), asksVote(1, 2, 2, 0, 0))
	p.do(t, deliver(5), deliver(0))
	p.expectNet(t, asksVote(0, 1, 1, 0, 0), asksVote(0, 2, 1, 0, 0), voted(2, 1, 1, true), asksVote(1, 0, 2, 0, 0), voted(2, 1, 2, true), voted(0, 1, 1, false))
	p.do(t, deliver(4), propose(1, 1))
	p.expectNet(t, asksVote(0, 1, 1, 0, 0), asksVote(0, 2, 1, 0, 0), voted(2, 1, 1, true), asksVote(1, 0, 2, 0, 0), voted(0, 1, 1, false),
		appends(1, 0, 2, 0, 0, 0), appends(1, 2, 2, 0, 0, 0), appends(1, 0, 2, 0, 0, 0, logged(2)...), appends(1, 2, 2, 0, 0, 0, logged(2)...))
}

// full returns five replicas of which 0 leads in term 1, with api.MaxNet messages: 64 times one to each of the others, the k-th time with k entries.
func full(t *testing.T) pair {
	t.Helper()
	p := led(t, 5, 0)
	for k := range api.MaxNet / 4 {
		p.do(t, propose(0, k+1))
	}
	if l := p.q.Net(); len(l) != api.MaxNet || len(l[0].Entries) != 1 || l[0].To != 1 || len(l[api.MaxNet-1].Entries) != api.MaxNet/4 {
		t.Fatalf("the net has %d messages", len(l))
	}
	return p
}

// expectFull checks that a net is full, that it begins with the messages of a list, and that it ends with others.
func (p pair) expectFull(t *testing.T, first []api.Message, last ...api.Message) {
	t.Helper()
	l := p.q.Net()
	if len(l) != api.MaxNet || !equal(l[:len(first)], first) || !equal(l[api.MaxNet-len(last):], last) {
		t.Fatalf("the net has %d messages, from\n%v to\n%v", len(l), l[0], l[len(l)-1])
	}
}

func TestP101FullNet(t *testing.T) {
	if api.MaxNet != 256 {
		t.Fatalf("api.MaxNet is %d", api.MaxNet)
	}
	p := full(t)
	before := p.q.Net()
	p.do(t, propose(0, 65))
	p.expectFull(t, before[4:], p.q.Net()[252:]...)
	if l := p.q.Net(); len(l[252].Entries) != 65 || len(l[255].Entries) != 65 {
		t.Error("the last messages are not those that were sent last")
	}
	p = full(t)
	p.do(t, campaign(3))
	p.expectFull(t, before[4:], asksVote(3, 0, 2, 0, 0), asksVote(3, 1, 2, 0, 0), asksVote(3, 2, 2, 0, 0), asksVote(3, 4, 2, 0, 0))
}

// A net that is one short of full takes one message and loses the first one for each further one.
func TestP101NearlyFullNet(t *testing.T) {
	p := full(t)
	before := p.q.Net()
	p.do(t, drop(255), repeat(0))
	p.expectFull(t, before[:255], stored(1, 0, 1, true, 1))
	p = full(t)
	p.do(t, drop(255), beat(0))
	if l := p.q.Net(); len(l) != api.MaxNet || !equal(l[:252], before[3:255]) {
		t.Errorf("the net has %d messages, from %v", len(l), l[0])
	}
	p = full(t)
	p.do(t, drop(255), drop(254), drop(253), drop(252), beat(0))
	if l := p.q.Net(); len(l) != api.MaxNet || !equal(l[:252], before[:252]) {
		t.Errorf("the net has %d messages, from %v", len(l), l[0])
	}
}

// A message that is delivered leaves the net before the answer is sent, one that is repeated does not.
func TestP102FullNet(t *testing.T) {
	p := full(t)
	before := p.q.Net()
	p.do(t, deliver(7))
	p.expectFull(t, slices.Concat(before[:7], before[8:]), stored(4, 0, 1, true, 2))
	p = full(t)
	p.do(t, repeat(7))
	p.expectFull(t, before[1:], stored(4, 0, 1, true, 2))
	p = full(t)
	p.do(t, repeat(0))
	p.expectFull(t, before[1:], stored(1, 0, 1, true, 1))
	p = full(t)
	p.do(t, deliver(255))
	p.expectFull(t, before[:255], stored(4, 0, 1, true, 64))
	p = full(t)
	p.do(t, crash(0, 0), beat(0))
	p.expectNet(t, before...)
}

// One message may bring four: the election of a leader of five.
func TestP101ElectionInAFullNet(t *testing.T) {
	p := fresh(t, 5)
	p.do(t, campaign(0), deliver(0))
	for range api.MaxNet - 4 {
		p.do(t, repeat(0))
	}
	// The net: the requests to 2, 3 and 4, and 253 votes, the first one of 1, the others of 2.
	before := p.q.Net()
	p.expectFull(t, []api.Message{asksVote(0, 2, 1, 0, 0), asksVote(0, 3, 1, 0, 0), asksVote(0, 4, 1, 0, 0), voted(1, 0, 1, true), voted(2, 0, 1, true)}, voted(2, 0, 1, true))
	p.do(t, deliver(200))
	if len(p.q.Net()) != api.MaxNet-1 || p.q.Leader() != -1 {
		t.Fatalf("two votes of five: %d messages, leader %d", len(p.q.Net()), p.q.Leader())
	}
	p.do(t, repeat(0), deliver(3))
	p.expectFull(t, slices.Concat(before[4:200], before[201:], []api.Message{voted(2, 0, 1, true)}), appends(0, 1, 1, 0, 0, 0), appends(0, 2, 1, 0, 0, 0), appends(0, 3, 1, 0, 0, 0), appends(0, 4, 1, 0, 0, 0))
}

func TestP101Leader(t *testing.T) {
	p := led(t, 3, 0)
	p.do(t, campaign(1))
	if p.q.Leader() != 0 {
		t.Errorf("a candidate has a greater term: the leader is %d", p.q.Leader())
	}
	p.flush(t, 1<<1|1<<2)
	if p.q.Role(0) != api.Leader || p.q.Role(1) != api.Leader || p.q.Leader() != 1 {
		t.Errorf("replica 1 leads in term 2, but replica 0 has not heard of it: the leader is %d", p.q.Leader())
	}
	p.do(t, crash(1, 0))
	if p.q.Leader() != 0 {
		t.Errorf("replica 1 has crashed: the leader is %d", p.q.Leader())
	}
	p.do(t, crash(0, 0))
	if p.q.Leader() != -1 {
		t.Errorf("both have crashed: the leader is %d", p.q.Leader())
	}
}

// The one with the greatest term leads, be it the first one, the last one or one between them.
func TestP101LeaderOfSeveral(t *testing.T) {
	for _, order := range [][]int{{0, 1, 2}, {0, 2, 1}, {1, 0, 2}, {1, 2, 0}, {2, 0, 1}, {2, 1, 0}} {
		p := fresh(t, 5)
		for k, i := range order {
			p.do(t, campaign(i))
			for range k {
				p.do(t, campaign(i))
			}
			p.flush(t, 1<<i|1<<3|1<<4)
			if p.q.Term(i) != k+1 || p.q.Leader() != i {
				t.Errorf("%v: replica %d has the term %d; the leader is %d", order, i, p.q.Term(i), p.q.Leader())
			}
		}
		if p.q.Role(order[0]) != api.Leader || p.q.Role(order[1]) != api.Leader {
			t.Errorf("%v: the earlier leaders have heard of the later ones", order)
		}
	}
}

func TestP102Errors(t *testing.T) {
	p := led(t, 3, 1)
	p.do(t, propose(1, 5), beat(1))
	p.do(t, deliver(0))
	size := len(p.q.Net())
	kinds := append([]int{-2, -1, 0, 1, 2, 3, 4, 5, 6, 7, 8, 9, 15, 33}, far...)
	numbers := append([]int{-3, -2, -1, 0, 1, 2, 3, 4, 5, 6, 255, 256, 257}, far...)
	for _, kind := range kinds {
		for _, who := range numbers {
			for _, n := range numbers {
				want := api.OK
				switch {
				case kind < 1 || kind > 7, (kind <= 3 || kind == 7) && (who < 0 || who > 2), kind > 3 && kind < 7 && (n < 0 || n >= size):
					want = api.ErrArg
				case kind == 2 && who != 1:
					want = api.ErrState
				}
				c := p.copy()
				if got := c.try(t, api.NetAct{Kind: kind, Who: who, N: n, Entry: note(8)}); got != want {
					t.Errorf("Kind %d, Who %d, N %d is error %d, not %d", kind, who, n, got, want)
				}
				if want != api.OK {
					c.expectSame(t, p)
				}
			}
		}
	}
}

// expectSame checks that two quorums are the same, in all that can be read of them.
func (p pair) expectSame(t *testing.T, other pair) {
	t.Helper()
	pair{p.q, other.m}.check(t, "two that are to be the same")
}

// Propose has errors of its own, behind those of the act.
func TestP102ErrorsOfPropose(t *testing.T) {
	p := led(t, 3, 1)
	p.do(t, propose(1, 5), campaign(2))
	wrong := note(5)
	wrong.Cell = 0
	for _, x := range []struct {
		who  int
		e    api.Entry
		want api.Errno
	}{
		{3, wrong, api.ErrArg}, {-1, note(5), api.ErrArg}, {0, note(5), api.ErrState}, {0, wrong, api.ErrState}, {2, note(5), api.ErrState}, {2, api.Entry{}, api.ErrState},
		{1, wrong, api.ErrArg}, {1, api.Entry{}, api.ErrArg}, {1, note(6), api.OK},
	} {
		c := p.copy()
		if got := c.try(t, api.NetAct{Kind: api.ActPropose, Who: x.who, Entry: x.e}); got != x.want {
			t.Errorf("Propose of %v by %d is error %d, not %d", x.e, x.who, got, x.want)
		}
		if x.want != api.OK {
			c.expectSame(t, p)
		}
	}
}

// The limit of a log is an error of Propose, too.
func TestP102LimitOfPropose(t *testing.T) {
	q, _ := quorum.New(1)
	q.Do(campaign(0))
	for n := range api.MaxEntries {
		if e := q.Do(propose(0, n)); e != api.OK {
			t.Fatalf("entry %d is error %d", n, e)
		}
	}
	if e := q.Do(propose(0, 7)); e != api.ErrLimit {
		t.Errorf("one entry more is error %d", e)
	}
	if e := q.Do(api.NetAct{Kind: api.ActPropose}); e != api.ErrArg {
		t.Errorf("a wrong entry more is error %d", e)
	}
	if e := q.Do(api.NetAct{Kind: api.ActPropose, Who: 1}); e != api.ErrArg {
		t.Errorf("another replica is error %d", e)
	}
	if q.Commit(0) != api.MaxEntries || len(q.Log(0)) != api.MaxEntries || !slices.Equal(q.Committed(), notes(0, api.MaxEntries-1)) {
		t.Errorf("%d entries, %d of them committed", len(q.Log(0)), q.Commit(0))
	}
	q.Do(crash(0, 0))
	if q.Commit(0) != 0 || len(q.Committed()) != api.MaxEntries {
		t.Errorf("a crash leaves %d committed entries", len(q.Committed()))
	}
}

func TestP102CallsOfAReplica(t *testing.T) {
	p := fresh(t, 3)
	p.do(t, beat(0))
	p.expectNet(t)
	p.do(t, campaign(2))
	p.expectNet(t, asksVote(2, 0, 1, 0, 0), asksVote(2, 1, 1, 0, 0))
	p.do(t, deliver(1))
	p.expectNet(t, asksVote(2, 0, 1, 0, 0), voted(1, 2, 1, true))
	p.do(t, deliver(1))
	p.expectNet(t, asksVote(2, 0, 1, 0, 0), appends(2, 0, 1, 0, 0, 0), appends(2, 1, 1, 0, 0, 0))
	p.do(t, drop(0), drop(0), drop(0), propose(2, 1))
	p.expectNet(t, appends(2, 0, 1, 0, 0, 0, logged(1)...), appends(2, 1, 1, 0, 0, 0, logged(1)...))
	p.do(t, deliver(0), deliver(1))
	p.expectNet(t, appends(2, 1, 1, 0, 0, 0, logged(1)...))
	p.do(t, beat(2))
	p.expectNet(t, appends(2, 1, 1, 0, 0, 0, logged(1)...), appends(2, 0, 1, 1, 1, 1), appends(2, 1, 1, 0, 0, 1, logged(1)...))
	p.expectCommits(t, notes(1, 1), 0, 0, 1)
	p.do(t, crash(2, 0))
	p.expectNet(t, appends(2, 1, 1, 0, 0, 0, logged(1)...), appends(2, 0, 1, 1, 1, 1), appends(2, 1, 1, 0, 0, 1, logged(1)...))
	if p.q.Role(2) != api.Follower || p.q.Term(2) != 1 || p.q.Commit(2) != 0 || len(p.q.Log(2)) != 1 {
		t.Errorf("a crash leaves role %d, term %d, commit %d, log %v", p.q.Role(2), p.q.Term(2), p.q.Commit(2), p.q.Log(2))
	}
}

// A message that is repeated stays where it is; one that is dropped reaches no one.
func TestP102ActsOnTheNet(t *testing.T) {
	start := fresh(t, 3)
	start.do(t, campaign(0), campaign(1))
	a, b, c, d := asksVote(0, 1, 1, 0, 0), asksVote(0, 2, 1, 0, 0), asksVote(1, 0, 1, 0, 0), asksVote(1, 2, 1, 0, 0)
	for n, left := range [][]api.Message{{b, c, d}, {a, c, d}, {a, b, d}, {a, b, c}} {
		answer := []api.Message{voted(1, 0, 1, false), voted(2, 0, 1, true), voted(0, 1, 1, false), voted(2, 1, 1, true)}[n]
		p := start.copy()
		p.do(t, deliver(n))
		p.expectNet(t, append(slices.Clone(left), answer)...)
		p = start.copy()
		p.do(t, repeat(n), repeat(n))
		p.expectNet(t, a, b, c, d, answer, answer)
		p = start.copy()
		p.do(t, drop(n))
		p.expectNet(t, left...)
	}
	p := start.copy()
	p.do(t, drop(1), drop(2))
	p.expectNet(t, a, c)
	if p.q.Term(2) != 0 {
		t.Error("a message that was dropped has been delivered")
	}
}

// A message that is repeated later is the same as before, whatever has become of the replicas.
func TestP102RepeatedLater(t *testing.T) {
	p := led(t, 3, 0)
	p.do(t, propose(0, 1), propose(0, 2), campaign(1), campaign(1), deliver(4), deliver(4), deliver(4))
	p.do(t, repeat(2), repeat(2), repeat(0))
	if l := p.q.Net(); !equal(l[2:4], []api.Message{appends(0, 1, 1, 0, 0, 0, logged(1, 1)...), appends(0, 2, 1, 0, 0, 0, logged(1, 1)...)}) {
		t.Errorf("the net is %v", l)
	}
}

// Acts use no more of their fields than those that their kinds need.
func TestP102UnusedFields(t *testing.T) {
	p := led(t, 3, 1)
	p.do(t, propose(1, 4))
	odd := api.Entry{Kind: -7, Tick: -1, Tenant: 99, Cell: math.MaxInt, Other: math.MinInt, Epoch: -1, From: -1, Until: -1, N: -1}
	for _, a := range []api.NetAct{campaign(0), campaign(1), propose(1, 9), beat(1), deliver(0), deliver(1), repeat(0), repeat(1), drop(0), drop(1), crash(1, 0)} {
		plain := p.copy()
		plain.do(t, a)
		for _, n := range append([]int{-1, 3, 256}, far...) {
			x := a
			if a.Kind != api.ActPropose {
				x.Entry = odd
			}
			if slices.Contains([]int{api.ActDeliver, api.ActRepeat, api.ActDrop}, a.Kind) {
				x.Who = n
			} else {
				x.N = n
			}
			c := p.copy()
			c.do(t, x)
			c.expectSame(t, plain)
		}
	}
}

// All that a replica does is synced, so that it does not matter how many of the other bytes a crash leaves.
func TestP102Crash(t *testing.T) {
	p := led(t, 3, 0)
	p.do(t, propose(0, 1))
	p.flush(t, 7)
	p.do(t, propose(0, 2), deliver(0))
	for _, keep := range append([]int{-1, 0, 1, 7, 1000}, far...) {
		for i, size := range []int{2, 2, 1} {
			c := p.copy()
			c.do(t, crash(i, keep))
			if c.q.Role(i) != api.Follower || c.q.Term(i) != 1 || c.q.Commit(i) != 0 || !slices.Equal(c.q.Log(i), logged(1, 1)[:size]) {
				t.Errorf("a crash of %d with %d leaves role %d, term %d, commit %d, log %v", i, keep, c.q.Role(i), c.q.Term(i), c.q.Commit(i), c.q.Log(i))
			}
			if len(c.q.Net()) != len(p.q.Net()) || len(c.q.Committed()) != 1 {
				t.Errorf("a crash of %d changes more than the replica", i)
			}
		}
	}
}

// The numbers of messages are those of the words of P9.4: each of the two others is asked, answers, is told of the leader and stores nothing.
func TestP103Flush(t *testing.T) {
	p := fresh(t, 3)
	if n := p.flush(t, 7); n != 0 {
		t.Errorf("an empty net: %d", n)
	}
	p.do(t, campaign(1))
	if n := p.flush(t, 7); n != 8 || p.q.Leader() != 1 {
		t.Errorf("an election: %d", n)
	}
	p.do(t, propose(1, 1))
	if n := p.flush(t, 7); n != 4 {
		t.Errorf("an entry: %d", n)
	}
	p.expectCommits(t, notes(1, 1), 0, 1, 0)
	p.do(t, beat(1), beat(1))
	if n := p.flush(t, 7); n != 8 {
		t.Errorf("two beats: %d", n)
	}
	p.expectCommits(t, notes(1, 1), 1, 1, 1)
	p.expectNet(t)
}

// Only messages from and to those that are up are delivered and counted; all others are lost.
func TestP103Up(t *testing.T) {
	for _, x := range []struct{ up, n, leader int }{
		{0, 0, -1}, {1, 0, -1}, {2, 0, -1}, {4, 0, -1}, {8, 0, -1}, {2 | 4, 0, -1}, {1 | 2, 4, 0}, {1 | 4, 4, 0}, {7, 8, 0}, {-1, 8, 0}, {math.MaxInt, 8, 0}, {math.MinInt, 0, -1},
		{8 | 1, 0, -1}, {-8, 0, -1}, {-2, 0, -1}, {-3, 4, 0}, {-5, 4, 0}, {1<<40 | 5, 4, 0}, {1 << 40, 0, -1}, {1 << 32, 0, -1}, {7 << 32, 0, -1},
	} {
		p := fresh(t, 3)
		p.do(t, campaign(0))
		if n := p.flush(t, x.up); n != x.n || p.q.Leader() != x.leader {
			t.Errorf("Flush(%d) is %d, the leader %d, not %d and %d", x.up, n, p.q.Leader(), x.n, x.leader)
		}
		p.expectNet(t)
		for i := range 3 {
			if heard := p.q.Term(i) == 1; heard != (i == 0 || x.leader == 0 && x.up>>i&1 == 1) {
				t.Errorf("Flush(%d): replica %d has the term %d", x.up, i, p.q.Term(i))
			}
		}
	}
}

// What has come from one that is not up is lost, also if it was sent before.
func TestP103FromIsNotUp(t *testing.T) {
	p := fresh(t, 5)
	p.do(t, campaign(2), deliver(0), deliver(0))
	p.expectNet(t, asksVote(2, 3, 1, 0, 0), asksVote(2, 4, 1, 0, 0), voted(0, 2, 1, true), voted(1, 2, 1, true))
	for up, want := range map[int]int{1<<2 | 1<<0: 1, 1<<2 | 1<<1: 1, 1<<2 | 1<<3: 2, 1<<0 | 1<<1 | 1<<3 | 1<<4: 0, 1<<2 | 1<<0 | 1<<1: 6, 1<<2 | 1<<1 | 1<<4: 7} {
		c := p.copy()
		if n := c.flush(t, up); n != want {
			t.Errorf("Flush(%d) is %d, not %d", up, n, want)
		}
		c.expectNet(t)
	}
}

// The messages are handed out in the order in which they were sent: the first candidate that asks gets the vote.
func TestP103FlushIsInOrder(t *testing.T) {
	for _, order := range [][2]int{{0, 1}, {1, 0}} {
		p := fresh(t, 3)
		p.do(t, campaign(order[0]), campaign(order[1]))
		p.flush(t, 7)
		if p.q.Leader() != order[0] || p.q.Role(order[1]) != api.Follower {
			t.Errorf("%v: the leader is %d", order, p.q.Leader())
		}
	}
}

// apart returns five replicas with logs of a number of entries, of which 4 has asked for votes that all others will give, though theirs have other terms in every place: it will go back through them entry by entry.
func apart(t *testing.T, size int) *quorum.Quorum {
	t.Helper()
	q, _ := quorum.New(5)
	elect := func(i, up int) {
		for range 2 {
			q.Do(campaign(i))
			q.Flush(up)
		}
		if q.Role(i) != api.Leader {
			t.Fatalf("replica %d does not lead", i)
		}
	}
	elect(0, 1<<0|1<<1|1<<2)
	for n := range size {
		q.Do(propose(0, n))
		q.Flush(1<<0 | 1<<1)
	}
	elect(4, 1<<2|1<<3|1<<4)
	for n := range size {
		q.Do(propose(4, size+n))
		q.Flush(0)
	}
	elect(0, 1<<0|1<<1|1<<2|1<<3)
	q.Do(campaign(4))
	q.Flush(31)
	for i := range 5 {
		if l := q.Log(i); len(l) != size || l[0].Term != l[size-1].Term || (i == 4) != (l[0].Term > q.Log(0)[0].Term) {
			t.Fatalf("replica %d has %d entries", i, len(l))
		}
	}
	if len(q.Committed()) != 0 {
		t.Fatal("something is committed")
	}
	q.Do(campaign(4))
	return q
}

// An election takes 8 messages, and each of the four others gets size + 1 lists of entries and answers them.
func TestP103StopsAt5000(t *testing.T) {
	const size = 700
	q := apart(t, size)
	if n := q.Flush(31); n != 5000 || len(q.Net()) != 4 || q.Leader() != 4 {
		t.Fatalf("the first call delivers %d and leaves %d messages", n, len(q.Net()))
	}
	rest := 8 + 4*2*(size+1) - 5000
	c := q.Copy()
	if n := q.Flush(31); n != rest || len(q.Net()) != 0 {
		t.Errorf("the second call delivers %d and not %d, and leaves %d messages", n, rest, len(q.Net()))
	}
	for i := range 4 {
		if !slices.Equal(q.Log(i), q.Log(4)) {
			t.Errorf("replica %d has another log than 4", i)
		}
	}
	if n := c.Flush(0); n != 0 || len(c.Net()) != 0 {
		t.Errorf("with none up a call delivers %d and leaves %d messages", n, len(c.Net()))
	}
}

// With 5,000 messages or one less to deliver nothing remains.
func TestP103DeliversAllUpTo5000(t *testing.T) {
	const size = 623
	q := apart(t, size)
	if n := q.Flush(31); n != 5000 || len(q.Net()) != 0 || 8+4*2*(size+1) != 5000 {
		t.Errorf("a call delivers %d and leaves %d messages", n, len(q.Net()))
	}
	q = apart(t, size)
	q.Do(drop(3))
	if n := q.Flush(31); n != 4998 || len(q.Net()) != 0 {
		t.Errorf("a call delivers %d and leaves %d messages", n, len(q.Net()))
	}
}

// Messages that are lost do not count: without replica 3, an election takes 6 messages, and there are three others to go back through.
func TestP103LostMessagesDoNotCount(t *testing.T) {
	const size = 700
	q := apart(t, size)
	if n := q.Flush(31 &^ (1 << 3)); n != 6+3*2*(size+1) || len(q.Net()) != 0 {
		t.Errorf("a call delivers %d and leaves %d messages", n, len(q.Net()))
	}
}

func TestP104Committed(t *testing.T) {
	p := led(t, 3, 0)
	p.do(t, propose(0, 1), propose(0, 2))
	p.expectCommits(t, nil, 0, 0, 0)
	p.do(t, deliver(0))
	p.expectCommits(t, nil, 0, 0, 0)
	p.do(t, deliver(3))
	p.expectCommits(t, notes(1, 1), 1, 0, 0)
	p.do(t, deliver(1), deliver(2))
	p.expectCommits(t, notes(1, 2), 2, 0, 0)
	p.do(t, beat(0), crash(0, 0))
	p.expectCommits(t, notes(1, 2), 0, 0, 0)
	p.do(t, deliver(2))
	p.expectCommits(t, notes(1, 2), 0, 2, 0)
	p.do(t, crash(1, 0))
	p.expectCommits(t, notes(1, 2), 0, 0, 0)
}

// A replica alone commits each entry in the act that proposes it.
func TestP104CommittedAlone(t *testing.T) {
	p := fresh(t, 1)
	p.do(t, campaign(0))
	for n := 1; n <= 9; n++ {
		p.do(t, propose(0, n))
		p.expectCommits(t, notes(1, n), n)
		p.expectNet(t)
	}
	p.do(t, crash(0, 0))
	p.expectCommits(t, notes(1, 9), 0)
	p.do(t, campaign(0))
	p.expectCommits(t, notes(1, 9), 0)
	p.do(t, propose(0, 10))
	p.expectCommits(t, notes(1, 10), 10)
}

// A later leader commits what an earlier one had sent, or replaces it; what is committed already stays.
func TestP104CommittedByTheNextLeader(t *testing.T) {
	p := led(t, 3, 0)
	p.do(t, propose(0, 1))
	p.flush(t, 1|2)
	p.expectCommits(t, notes(1, 1), 1, 0, 0)
	p.do(t, propose(0, 50))
	p.flush(t, 0)
	p.do(t, campaign(1))
	p.flush(t, 2|4)
	p.expectCommits(t, notes(1, 1), 1, 0, 0)
	p.do(t, propose(1, 2))
	p.flush(t, 2|4)
	p.expectCommits(t, notes(1, 2), 1, 2, 0)
	p.do(t, propose(1, 3))
	p.flush(t, 7)
	p.expectCommits(t, notes(1, 3), 2, 3, 2)
	p.do(t, beat(1))
	p.flush(t, 7)
	p.expectCommits(t, notes(1, 3), 3, 3, 3)
}

// A leader that has not heard of the next one still learns what a majority has stored in its term.
func TestP104CommittedByAnEarlierLeader(t *testing.T) {
	p := led(t, 3, 0)
	p.do(t, propose(0, 1), deliver(0), campaign(1))
	p.expectNet(t, appends(0, 2, 1, 0, 0, 0, logged(1)...), stored(1, 0, 1, true, 1), asksVote(1, 0, 2, 1, 1), asksVote(1, 2, 2, 1, 1))
	p.do(t, deliver(3), deliver(3))
	if p.q.Leader() != 1 {
		t.Fatalf("the leader is %d", p.q.Leader())
	}
	p.expectCommits(t, nil, 0, 0, 0)
	p.do(t, deliver(1))
	p.expectCommits(t, notes(1, 1), 1, 0, 0)
}

// What is committed in the middle of a flush is committed, though it is not known to any replica behind it.
func TestP104CommittedWithinAFlush(t *testing.T) {
	p := led(t, 3, 0)
	p.do(t, propose(0, 1), propose(0, 2), propose(0, 3))
	p.flush(t, 7)
	p.expectCommits(t, notes(1, 3), 3, 0, 0)
	q, _ := quorum.New(3)
	q.Do(campaign(0))
	q.Flush(7)
	q.Do(propose(0, 1))
	q.Flush(3)
	if !slices.Equal(q.Committed(), notes(1, 1)) {
		t.Errorf("committed is %v", q.Committed())
	}
}

func TestExamples(t *testing.T) {
	q, _ := quorum.New(3)
	q.Do(campaign(0))
	q.Flush(7)
	if q.Leader() != 0 {
		t.Errorf("Flush(7): the leader is %d", q.Leader())
	}
	q, _ = quorum.New(3)
	q.Do(campaign(0))
	q.Flush(1)
	if q.Leader() != -1 {
		t.Errorf("Flush(1): the leader is %d", q.Leader())
	}
}
