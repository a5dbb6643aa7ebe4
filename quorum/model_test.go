package quorum_test

import (
	"slices"
	"testing"

	"cellplane/api"
	"cellplane/quorum"
	"cellplane/replica"
)

// model is a quorum by the words of the chapter's promises.
type model struct {
	replicas  []*replica.Replica
	net       []api.Message
	committed []api.Entry
}

func newModel(n int) *model {
	m := &model{}
	for id := range n {
		r, _ := replica.New(id, n)
		m.replicas = append(m.replicas, r)
	}
	return m
}

func (m *model) copy() *model {
	c := &model{net: cloneMessages(m.net), committed: slices.Clone(m.committed)}
	for _, r := range m.replicas {
		c.replicas = append(c.replicas, r.Copy())
	}
	return c
}

func cloneMessages(l []api.Message) []api.Message {
	var out []api.Message
	for _, x := range l {
		x.Entries = slices.Clone(x.Entries)
		out = append(out, x)
	}
	return out
}

// without returns the net without the message n.
func (m *model) without(n int) []api.Message {
	return append(cloneMessages(m.net[:n]), cloneMessages(m.net[n+1:])...)
}

func (m *model) send(l []api.Message) {
	for _, x := range l {
		if len(m.net) >= api.MaxNet {
			m.net = m.without(0)
		}
		m.net = append(m.net, x)
	}
}

// behindAnAct lets the list of what is committed become that of each replica which has more.
func (m *model) behindAnAct() {
	for _, r := range m.replicas {
		if r.Commit() <= len(m.committed) {
			continue
		}
		m.committed = nil
		for _, l := range r.Log()[:r.Commit()] {
			m.committed = append(m.committed, l.Entry)
		}
	}
}

func (m *model) hand(x api.Message) {
	m.send(m.replicas[x.To].Handle(x))
	m.behindAnAct()
}

func (m *model) do(a api.NetAct) api.Errno {
	who := a.Who >= 0 && a.Who < len(m.replicas)
	which := a.N >= 0 && a.N < len(m.net)
	switch {
	case a.Kind == 1 && who:
		m.send(m.replicas[a.Who].Campaign())
	case a.Kind == 2 && who:
		l, e := m.replicas[a.Who].Propose(a.Entry)
		if e != api.OK {
			return e
		}
		m.send(l)
	case a.Kind == 3 && who:
		m.send(m.replicas[a.Who].Beat())
	case a.Kind == 4 && which:
		x := m.net[a.N]
		m.net = m.without(a.N)
		m.hand(x)
	case a.Kind == 5 && which:
		m.hand(m.net[a.N])
	case a.Kind == 6 && which:
		m.net = m.without(a.N)
	case a.Kind == 7 && who:
		m.replicas[a.Who].Crash(a.N)
	default:
		return api.ErrArg
	}
	m.behindAnAct()
	return api.OK
}

func (m *model) flush(up int) int {
	delivered := 0
	for len(m.net) > 0 && delivered != 5000 {
		x := m.net[0]
		m.net = m.net[1:]
		if up&(1<<x.From) != 0 && up&(1<<x.To) != 0 {
			m.hand(x)
			delivered++
		}
	}
	return delivered
}

func (m *model) leader() int {
	leader, term := -1, 0
	for i, r := range m.replicas {
		if r.Role() == api.Leader && r.Term() > term {
			leader, term = i, r.Term()
		}
	}
	return leader
}

// pair is a quorum and its model. Its methods make a call of both, and check that they agree.
type pair struct {
	q *quorum.Quorum
	m *model
}

// fresh returns a new quorum with its model.
func fresh(t *testing.T, n int) pair {
	t.Helper()
	q, e := quorum.New(n)
	if e != api.OK || q == nil {
		t.Fatalf("New(%d) is error %d", n, e)
	}
	p := pair{q, newModel(n)}
	p.check(t)
	return p
}

func (p pair) copy() pair { return pair{p.q.Copy(), p.m.copy()} }

// try makes an act, and returns its error.
func (p pair) try(t *testing.T, a api.NetAct) api.Errno {
	t.Helper()
	got, want := p.q.Do(a), p.m.do(a)
	if got != want {
		t.Fatalf("Do(%v) is error %d, not %d", a, got, want)
	}
	p.check(t, a)
	return got
}

// do makes acts without an error.
func (p pair) do(t *testing.T, acts ...api.NetAct) {
	t.Helper()
	for _, a := range acts {
		if e := p.try(t, a); e != api.OK {
			t.Fatalf("Do(%v) is error %d", a, e)
		}
	}
}

func (p pair) flush(t *testing.T, up int) int {
	t.Helper()
	got, want := p.q.Flush(up), p.m.flush(up)
	if got != want {
		t.Fatalf("Flush(%d) is %d, not %d", up, got, want)
	}
	p.check(t, "Flush", up)
	return got
}

// check compares all that can be read of a quorum with its model.
func (p pair) check(t *testing.T, about ...any) {
	t.Helper()
	if got := p.q.Net(); !equal(got, p.m.net) {
		t.Fatalf("the net is\n%v, not\n%v: %v", got, p.m.net, about)
	}
	if got := p.q.Committed(); !slices.Equal(got, p.m.committed) {
		t.Fatalf("committed is\n%v, not\n%v: %v", got, p.m.committed, about)
	}
	if got, want := p.q.Leader(), p.m.leader(); got != want {
		t.Fatalf("the leader is %d, not %d: %v", got, want, about)
	}
	for i, r := range p.m.replicas {
		got, want := [3]int{p.q.Role(i), p.q.Term(i), p.q.Commit(i)}, [3]int{r.Role(), r.Term(), r.Commit()}
		if got != want {
			t.Fatalf("role, term and commit of replica %d are %v, not %v: %v", i, got, want, about)
		}
		if got := p.q.Log(i); !slices.Equal(got, r.Log()) {
			t.Fatalf("the log of replica %d is\n%v, not\n%v: %v", i, got, r.Log(), about)
		}
	}
}

// equal compares messages; no entries and an empty list are the same.
func equal(a, b []api.Message) bool {
	return slices.EqualFunc(a, b, func(x, y api.Message) bool {
		same := slices.Equal(x.Entries, y.Entries)
		x.Entries, y.Entries = nil, nil
		return same && x.Kind == y.Kind && x.From == y.From && x.To == y.To && x.Term == y.Term && x.Index == y.Index && x.PrevTerm == y.PrevTerm && x.Commit == y.Commit && x.OK == y.OK
	})
}
