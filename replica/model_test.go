package replica_test

import (
	"slices"
	"testing"

	"cellplane/api"
	"cellplane/entry"
	"cellplane/replica"
)

// model is a replica by the words of the chapter's definitions and promises. What is synced needs no place in it: all is.
type model struct {
	id, n                    int
	role, term, vote, commit int
	log                      []api.Logged
	voted                    map[int]bool
	next, match              map[int]int
}

func newModel(id, n int) *model {
	return &model{id: id, n: n, role: api.Follower, vote: -1}
}

func (m *model) copy() *model {
	c := *m
	c.log = slices.Clone(m.log)
	c.voted = cloneMap(m.voted)
	c.next = cloneMap(m.next)
	c.match = cloneMap(m.match)
	return &c
}

func cloneMap[V any](m map[int]V) map[int]V {
	c := map[int]V{}
	for k, v := range m {
		c[k] = v
	}
	return c
}

func (m *model) others() []int {
	return slices.DeleteFunc([]int{0, 1, 2, 3, 4}, func(i int) bool { return i >= m.n || i == m.id })
}

func (m *model) lastTerm() int {
	if len(m.log) == 0 {
		return 0
	}
	return m.log[len(m.log)-1].Term
}

func (m *model) appendMessage(to int) api.Message {
	next := m.next[to]
	prev := 0
	if next > 0 {
		prev = m.log[next-1].Term
	}
	return api.Message{Kind: api.MsgAppend, From: m.id, To: to, Term: m.term, Index: next, PrevTerm: prev, Commit: m.commit, Entries: slices.Clone(m.log[next:])}
}

func (m *model) appendMessages() []api.Message {
	var out []api.Message
	for _, to := range m.others() {
		out = append(out, m.appendMessage(to))
	}
	return out
}

func (m *model) advance() {
	for size := len(m.log); size > m.commit; size-- {
		stored := 1
		for _, i := range m.others() {
			if m.match[i] >= size {
				stored++
			}
		}
		if m.log[size-1].Term == m.term && 2*stored > m.n {
			m.commit = size
			return
		}
	}
}

func (m *model) lead() {
	m.role = api.Leader
	m.next, m.match = map[int]int{}, map[int]int{}
	for _, i := range m.others() {
		m.next[i] = len(m.log)
	}
}

func (m *model) campaign() []api.Message {
	if m.term == api.MaxTick {
		return nil
	}
	m.term++
	m.vote, m.role, m.voted = m.id, api.Candidate, map[int]bool{m.id: true}
	if m.n == 1 {
		m.lead()
		return nil
	}
	var out []api.Message
	for _, to := range m.others() {
		out = append(out, api.Message{Kind: api.MsgVote, From: m.id, To: to, Term: m.term, Index: len(m.log), PrevTerm: m.lastTerm()})
	}
	return out
}

func (m *model) propose(e api.Entry) ([]api.Message, api.Errno) {
	switch {
	case m.role != api.Leader:
		return nil, api.ErrState
	case !entry.Shape(e):
		return nil, api.ErrArg
	case len(m.log) == api.MaxEntries:
		return nil, api.ErrLimit
	}
	m.log = append(m.log, api.Logged{Term: m.term, Entry: e})
	m.advance()
	return m.appendMessages(), api.OK
}

func (m *model) beat() []api.Message {
	if m.role != api.Leader {
		return nil
	}
	return m.appendMessages()
}

func (m *model) crash() { m.role, m.commit = api.Follower, 0 }

func (m *model) proper(x api.Message) bool {
	switch {
	case x.To != m.id, !slices.Contains(m.others(), x.From), x.Kind < 1, x.Kind > 4, x.Term < 1, x.Term > api.MaxTick:
		return false
	case x.Index < 0, x.Index > api.MaxEntries, x.PrevTerm < 0, x.PrevTerm > x.Term, x.Commit < 0, x.Commit > api.MaxEntries:
		return false
	case x.Kind != api.MsgAppend:
		return true
	case x.PrevTerm == 0 && x.Index != 0, x.PrevTerm != 0 && x.Index == 0, x.Index+len(x.Entries) > api.MaxEntries:
		return false
	}
	for k, l := range x.Entries {
		if !entry.Shape(l.Entry) || l.Term < 1 || l.Term < x.PrevTerm || l.Term > x.Term || k > 0 && l.Term < x.Entries[k-1].Term {
			return false
		}
	}
	return true
}

func (m *model) handle(x api.Message) []api.Message {
	if !m.proper(x) {
		return nil
	}
	if x.Term > m.term {
		m.term, m.vote, m.role = x.Term, -1, api.Follower
	}
	switch x.Kind {
	case api.MsgVote:
		return m.handleVote(x)
	case api.MsgVoted:
		return m.handleVoted(x)
	case api.MsgAppend:
		return m.handleAppend(x)
	}
	return m.handleStored(x)
}

func (m *model) handleVote(x api.Message) []api.Message {
	good := x.PrevTerm > m.lastTerm() || (x.PrevTerm == m.lastTerm() && x.Index >= len(m.log))
	granted := x.Term == m.term && (m.vote == -1 || m.vote == x.From) && good
	if granted {
		m.vote = x.From
	}
	return []api.Message{{Kind: api.MsgVoted, From: m.id, To: x.From, Term: m.term, OK: granted}}
}

func (m *model) handleVoted(x api.Message) []api.Message {
	if m.role != api.Candidate || x.Term != m.term || !x.OK {
		return nil
	}
	m.voted[x.From] = true
	if 2*len(m.voted) <= m.n {
		return nil
	}
	m.lead()
	return m.appendMessages()
}

func (m *model) handleAppend(x api.Message) []api.Message {
	stored := func(ok bool, index int) []api.Message {
		return []api.Message{{Kind: api.MsgStored, From: m.id, To: x.From, Term: m.term, OK: ok, Index: index}}
	}
	if x.Term < m.term {
		return stored(false, 0)
	}
	if m.role == api.Leader {
		return nil
	}
	m.role = api.Follower
	if x.Index > len(m.log) || (x.Index > 0 && m.log[x.Index-1].Term != x.PrevTerm) {
		return stored(false, min(len(m.log), x.Index-1))
	}
	for k, l := range x.Entries {
		p := x.Index + k
		if p < len(m.log) && m.log[p].Term == l.Term {
			continue
		}
		if p < m.commit {
			return nil
		}
		m.log = append(m.log[:p:p], x.Entries[k:]...)
		break
	}
	if end := min(x.Commit, x.Index+len(x.Entries)); end > m.commit {
		m.commit = end
	}
	return stored(true, x.Index+len(x.Entries))
}

func (m *model) handleStored(x api.Message) []api.Message {
	switch {
	case m.role != api.Leader, x.Term != m.term:
		return nil
	case !x.OK:
		next := min(m.next[x.From]-1, x.Index)
		if next < 0 {
			next = 0
		}
		m.next[x.From] = next
		return []api.Message{m.appendMessage(x.From)}
	case x.Index <= len(m.log):
		if x.Index > m.match[x.From] {
			m.match[x.From] = x.Index
		}
		m.next[x.From] = m.match[x.From]
		m.advance()
	}
	return nil
}

// pair is a replica and its model. Its methods make a call of both, check that they agree, and return the result.
type pair struct {
	r *replica.Replica
	m *model
}

// fresh returns a new replica with its model.
func fresh(t *testing.T, id, n int) pair {
	t.Helper()
	r, e := replica.New(id, n)
	if e != api.OK || r == nil {
		t.Fatalf("New(%d, %d) is error %d", id, n, e)
	}
	p := pair{r, newModel(id, n)}
	p.check(t)
	return p
}

func (p pair) copy() pair { return pair{p.r.Copy(), p.m.copy()} }

func (p pair) campaign(t *testing.T) []api.Message {
	t.Helper()
	got := p.r.Campaign()
	p.agree(t, got, p.m.campaign(), "Campaign")
	return got
}

func (p pair) propose(t *testing.T, e api.Entry) ([]api.Message, api.Errno) {
	t.Helper()
	got, failed := p.r.Propose(e)
	want, wanted := p.m.propose(e)
	if failed != wanted {
		t.Fatalf("Propose(%v) is error %d, not %d", e, failed, wanted)
	}
	p.agree(t, got, want, "Propose", e)
	return got, failed
}

func (p pair) beat(t *testing.T) []api.Message {
	t.Helper()
	got := p.r.Beat()
	p.agree(t, got, p.m.beat(), "Beat")
	return got
}

func (p pair) handle(t *testing.T, x api.Message) []api.Message {
	t.Helper()
	got := p.r.Handle(x)
	p.agree(t, got, p.m.handle(x), "Handle", x)
	return got
}

func (p pair) crash(t *testing.T, keep int) {
	t.Helper()
	p.r.Crash(keep)
	p.m.crash()
	p.agree(t, nil, nil, "Crash", keep)
}

// agree checks the result of a call, and the replica behind it.
func (p pair) agree(t *testing.T, got, want []api.Message, call ...any) {
	t.Helper()
	if !equal(got, want) {
		t.Fatalf("%v returns\n%v, not\n%v", call, got, want)
	}
	p.check(t, call...)
}

// check compares all that can be read of a replica with its model.
func (p pair) check(t *testing.T, about ...any) {
	t.Helper()
	r, m := p.r, p.m
	got, want := [5]int{r.Role(), r.Term(), r.Vote(), r.Commit(), r.Len()}, [5]int{m.role, m.term, m.vote, m.commit, len(m.log)}
	if got != want {
		t.Fatalf("role, term, vote, commit and length are %v, not %v: %v", got, want, about)
	}
	if got := r.Log(); !slices.Equal(got, m.log) {
		t.Fatalf("the log is\n%v, not\n%v: %v", got, m.log, about)
	}
	for i, want := range m.log {
		if got, ok := r.At(i); !ok || got != want {
			t.Fatalf("At(%d) is %v, %v, not %v: %v", i, got, ok, want, about)
		}
	}
	for _, i := range []int{-1, len(m.log)} {
		if got, ok := r.At(i); ok || got != (api.Logged{}) {
			t.Fatalf("At(%d) is %v, %v, where there is none: %v", i, got, ok, about)
		}
	}
}

// equal compares messages; no entries and an empty list are the same.
func equal(a, b []api.Message) bool {
	return slices.EqualFunc(a, b, func(x, y api.Message) bool {
		same := slices.Equal(x.Entries, y.Entries)
		x.Entries, y.Entries = nil, nil
		return same && x.Kind == y.Kind && x.From == y.From && x.To == y.To && x.Term == y.Term && x.Index == y.Index && x.PrevTerm == y.PrevTerm && x.Commit == y.Commit && x.OK == y.OK
	})
}
