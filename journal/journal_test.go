package journal_test

import (
	"bytes"
	"math"
	"math/rand"
	"slices"
	"testing"

	"cellplane/api"
	"cellplane/entry"
	"cellplane/frame"
	"cellplane/journal"
	"cellplane/wire"
)

// key is the key of the frames of a journal.
const key = 8

// call is a call that may write to a journal: SetTerm(term, n), Append(term, entry) or Cut(n), by the kind of its record.
type call struct {
	kind, term, n int
	entry         api.Entry
}

// setTerm, put and cut are the calls.
func setTerm(term, vote int) call       { return call{kind: 1, term: term, n: vote} }
func put(term int, e api.Entry) call    { return call{kind: 2, term: term, entry: e} }
func cut(n int) call                    { return call{kind: 3, n: n} }
func puts(term, count int) (out []call) { return slices.Repeat([]call{put(term, note(term))}, count) }

// note returns a note, and place an entry that uses more fields than a note.
func note(n int) api.Entry {
	return api.Entry{Kind: api.EntryNote, Tenant: -1, Cell: -1, Other: -1, N: n}
}

func place(tick int) api.Entry {
	return api.Entry{Kind: api.EntryPlace, Tick: tick, Tenant: 3, Cell: 6, Other: -1}
}

// do makes a call.
func do(j *journal.Journal, a call) api.Errno {
	switch a.kind {
	case 1:
		return j.SetTerm(a.term, a.n)
	case 2:
		return j.Append(a.term, a.entry)
	}
	return j.Cut(a.n)
}

// memory is what a journal remembers.
type memory struct {
	term, vote int
	log        []api.Logged
}

// errorOf returns the error of a call by the words of P8.2.
func (m memory) errorOf(a call) api.Errno {
	switch a.kind {
	case 1:
		if !(0 <= a.term && a.term <= api.MaxTick) || !(-1 <= a.n && a.n <= api.MaxReplicas-1) {
			return api.ErrArg
		}
		if a.term < m.term || (a.term == m.term && !(m.vote == -1 || m.vote == a.n)) {
			return api.ErrOld
		}
	case 2:
		if !(1 <= a.term && a.term <= api.MaxTick) || !entry.Shape(a.entry) {
			return api.ErrArg
		}
		if a.term > m.term || (len(m.log) > 0 && a.term < m.log[len(m.log)-1].Term) {
			return api.ErrOld
		}
		if len(m.log) == api.MaxEntries {
			return api.ErrLimit
		}
	case 3:
		if !(0 <= a.n && a.n <= len(m.log)) {
			return api.ErrArg
		}
	}
	return api.OK
}

// apply makes the change of a call that returns OK.
func (m *memory) apply(a call) {
	switch a.kind {
	case 1:
		m.term, m.vote = a.term, a.n
	case 2:
		m.log = append(m.log, api.Logged{Term: a.term, Entry: a.entry})
	case 3:
		m.log = m.log[:a.n]
	}
}

// remembered returns what calls make of a new journal, if all of them return OK.
func remembered(calls ...call) memory {
	m := memory{vote: -1}
	for _, a := range calls {
		m.apply(a)
	}
	return m
}

// ints returns the bytes of integers.
func ints(numbers ...int) []byte {
	var b []byte
	for _, n := range numbers {
		b = wire.Int(b, n)
	}
	return b
}

// fieldsOf returns the fields of an entry in the order of P6.2.
func fieldsOf(e api.Entry) []int {
	return []int{e.Kind, e.Tick, e.Tenant, e.Cell, e.Other, e.Epoch, e.From, e.Until, e.N}
}

// payload returns the bytes of the record of a call by the chapter's definition.
func payload(a call) []byte {
	switch a.kind {
	case 1:
		return ints(1, a.term, a.n)
	case 2:
		return ints(append([]int{2, a.term}, fieldsOf(a.entry)...)...)
	}
	return ints(3, a.n)
}

// framed returns the frames of byte strings.
func framed(records ...[]byte) []byte {
	var b []byte
	for _, p := range records {
		b = frame.Put(b, key, p)
	}
	return b
}

// written returns the frames of the records of calls.
func written(calls ...call) []byte {
	var b []byte
	for _, a := range calls {
		b = append(b, framed(payload(a))...)
	}
	return b
}

// made returns a new journal after calls, none of which returns an error.
func made(t *testing.T, calls ...call) *journal.Journal {
	t.Helper()
	j := journal.New()
	mustDo(t, j, calls...)
	return j
}

// mustDo makes calls, none of which returns an error.
func mustDo(t *testing.T, j *journal.Journal, calls ...call) {
	t.Helper()
	for i, a := range calls {
		if e := do(j, a); e != api.OK {
			t.Fatalf("call %d, %v, is error %d", i, a, e)
		}
	}
}

// check compares all that a journal returns with a memory and the bytes of a disk.
func check(t *testing.T, j *journal.Journal, m memory, disk []byte, about ...any) {
	t.Helper()
	if j.Term() != m.term || j.Vote() != m.vote || j.Len() != len(m.log) {
		t.Fatalf("term %d, vote %d, length %d, not %d, %d, %d: %v", j.Term(), j.Vote(), j.Len(), m.term, m.vote, len(m.log), about)
	}
	for i, want := range m.log {
		if got, ok := j.At(i); !ok || got != want || j.TermAt(i) != want.Term {
			t.Fatalf("entry %d is %v, %v, of term %d, not %v: %v", i, got, ok, j.TermAt(i), want, about)
		}
	}
	for _, i := range []int{-1, len(m.log)} {
		if got, ok := j.At(i); ok || got != (api.Logged{}) || j.TermAt(i) != 0 {
			t.Fatalf("entry %d is %v, %v, of term %d, where there is none: %v", i, got, ok, j.TermAt(i), about)
		}
	}
	if got := j.Bytes(); !bytes.Equal(got, disk) {
		t.Fatalf("the disk has %d bytes, not %d, or other ones: %v", len(got), len(disk), about)
	}
}

// checkCalls compares a journal with what calls make of a new one.
func checkCalls(t *testing.T, j *journal.Journal, calls ...call) {
	t.Helper()
	check(t, j, remembered(calls...), written(calls...), calls)
}

func TestP81New(t *testing.T) {
	j := journal.New()
	check(t, j, memory{term: 0, vote: -1}, nil)
	if j.Term() != 0 || j.Vote() != -1 || j.Len() != 0 || len(j.Bytes()) != 0 {
		t.Errorf("a new journal has term %d, vote %d, %d entries, %d bytes", j.Term(), j.Vote(), j.Len(), len(j.Bytes()))
	}
}

func TestP81AtAndTermAt(t *testing.T) {
	j := made(t, setTerm(2, 0), put(1, note(7)), put(2, place(5)), put(2, note(9)))
	for i, want := range []api.Logged{{Term: 1, Entry: note(7)}, {Term: 2, Entry: place(5)}, {Term: 2, Entry: note(9)}} {
		if got, ok := j.At(i); !ok || got != want {
			t.Errorf("At(%d) is %v, %v, not %v", i, got, ok, want)
		}
		if got := j.TermAt(i); got != want.Term {
			t.Errorf("TermAt(%d) is %d, not %d", i, got, want.Term)
		}
	}
	for _, i := range []int{math.MinInt, -1 << 32, -2, -1, 3, 4, api.MaxEntries, 1 << 32, math.MaxInt} {
		if got, ok := j.At(i); ok || got != (api.Logged{}) {
			t.Errorf("At(%d) is %v, %v", i, got, ok)
		}
		if got := j.TermAt(i); got != 0 {
			t.Errorf("TermAt(%d) is %d", i, got)
		}
	}
}

// What was cut is no entry any more, though the log has room for it.
func TestP81AtBehindACut(t *testing.T) {
	j := made(t, setTerm(1, 0), put(1, note(7)), put(1, note(8)), cut(1))
	if got, ok := j.At(1); ok || got != (api.Logged{}) || j.TermAt(1) != 0 {
		t.Errorf("At(1) is %v, %v", got, ok)
	}
	if got, ok := j.At(0); !ok || got.Entry != note(7) {
		t.Errorf("At(0) is %v, %v", got, ok)
	}
}

// The records, byte for byte as the chapter's definitions have them.
func TestP82Records(t *testing.T) {
	j := made(t, setTerm(3, 1), put(2, api.Entry{Kind: api.EntryPlace, Tick: 3, Tenant: 1, Cell: 2, Other: -1}), cut(1), setTerm(64, -1), cut(0))
	records, size := frame.All(j.Bytes(), 8)
	want := [][]byte{{2, 6, 2}, {4, 4, 2, 6, 2, 4, 1, 0, 0, 0, 0}, {6, 2}, {2, 128, 1, 1}, {6, 0}}
	if !slices.EqualFunc(records, want, bytes.Equal) || size != len(j.Bytes()) {
		t.Errorf("the records are %v, not %v, in %d bytes of %d", records, want, size, len(j.Bytes()))
	}
	if records, _ := frame.All(j.Bytes(), 7); len(records) != 0 {
		t.Error("the frames are those of another key")
	}
}

func TestP82CallsTakeEffect(t *testing.T) {
	j := journal.New()
	var run []call
	for _, a := range []call{
		setTerm(0, 2), setTerm(0, 2), setTerm(2, -1), setTerm(2, -1), setTerm(2, 4), put(1, note(1)), put(1, place(1)), put(2, note(2)), cut(3), cut(2),
		setTerm(7, 0), put(1, note(3)), put(7, note(4)), cut(1), put(1, note(5)), put(2, note(6)), setTerm(7, 0), cut(0), cut(0), put(1, note(7)), setTerm(api.MaxTick, -1), put(api.MaxTick, place(api.MaxTick)),
	} {
		run = append(run, a)
		if e := do(j, a); e != api.OK {
			t.Fatalf("the last of %v is error %d", run, e)
		}
		checkCalls(t, j, run...)
	}
}

// Entries of each kind are kept as they are.
func TestP82AppendKeepsEntries(t *testing.T) {
	run := []call{setTerm(9, 0)}
	for kind := api.EntryPlace; kind <= api.EntryNote; kind++ {
		for _, n := range []int{0, 1} {
			for _, tenant := range []int{-1, 5} {
				for _, cell := range []int{-1, 6} {
					for _, other := range []int{-1, 2} {
						for _, epoch := range []int{0, 70} {
							e := api.Entry{Kind: kind, Tick: 1000 + kind, Tenant: tenant, Cell: cell, Other: other, Epoch: epoch, From: epoch, Until: 2 * epoch, N: n}
							cutEntry := e
							cutEntry.From, cutEntry.Until = 0, 0
							run = append(run, put(9, e), put(9, cutEntry))
						}
					}
				}
			}
		}
	}
	run = slices.DeleteFunc(run, func(a call) bool { return a.kind == 2 && !entry.Shape(a.entry) })
	kinds := map[int]bool{}
	for _, a := range run[1:] {
		kinds[a.entry.Kind] = true
	}
	if len(kinds) != 16 {
		t.Errorf("the test has entries of %d kinds", len(kinds))
	}
	j := made(t, run...)
	checkCalls(t, j, run...)
	checkCalls(t, journal.Open(j.Bytes()), run...)
}

// errorCase is a call, after others, with its error.
type errorCase struct {
	before []call
	call   call
	want   api.Errno
}

// checkErrors makes calls that return errors, and compares the journals before and after them.
func checkErrors(t *testing.T, cases []errorCase) {
	t.Helper()
	for i, c := range cases {
		j := made(t, c.before...)
		if got := do(j, c.call); got != c.want {
			t.Errorf("case %d: %v is error %d, not %d", i, c.call, got, c.want)
		}
		if c.want == api.OK {
			checkCalls(t, j, append(slices.Clone(c.before), c.call)...)
		} else {
			checkCalls(t, j, c.before...)
		}
		j.Sync()
		j.Crash(0)
		if c.want == api.OK {
			checkCalls(t, j, append(slices.Clone(c.before), c.call)...)
		} else {
			checkCalls(t, j, c.before...)
		}
	}
}

func TestP82SetTermErrors(t *testing.T) {
	voted := []call{setTerm(3, 1)}
	free := []call{setTerm(3, -1)}
	last := []call{setTerm(api.MaxTick, 0)}
	checkErrors(t, []errorCase{
		{nil, setTerm(-1, 0), api.ErrArg},
		{nil, setTerm(-1, -1), api.ErrArg},
		{nil, setTerm(math.MinInt, 0), api.ErrArg},
		{nil, setTerm(api.MaxTick+1, 0), api.ErrArg},
		{nil, setTerm(math.MaxInt, 0), api.ErrArg},
		{nil, setTerm(1, -2), api.ErrArg},
		{nil, setTerm(1, math.MinInt), api.ErrArg},
		{nil, setTerm(1, api.MaxReplicas), api.ErrArg},
		{nil, setTerm(1, math.MaxInt), api.ErrArg},
		{nil, setTerm(0, -2), api.ErrArg},
		{nil, setTerm(0, -1), api.OK},
		{nil, setTerm(0, 0), api.OK},
		{nil, setTerm(0, api.MaxReplicas-1), api.OK},
		{nil, setTerm(api.MaxTick, api.MaxReplicas-1), api.OK},
		{nil, setTerm(api.MaxTick, -1), api.OK},
		{[]call{setTerm(0, 2)}, setTerm(0, 1), api.ErrOld},
		{[]call{setTerm(0, 2)}, setTerm(0, -1), api.ErrOld},
		{[]call{setTerm(0, 2)}, setTerm(0, 2), api.OK},
		{voted, setTerm(3, 1), api.OK},
		{voted, setTerm(3, 0), api.ErrOld},
		{voted, setTerm(3, 2), api.ErrOld},
		{voted, setTerm(3, -1), api.ErrOld},
		{voted, setTerm(2, 1), api.ErrOld},
		{voted, setTerm(2, -1), api.ErrOld},
		{voted, setTerm(0, 1), api.ErrOld},
		{voted, setTerm(4, 1), api.OK},
		{voted, setTerm(4, 2), api.OK},
		{voted, setTerm(4, -1), api.OK},
		{[]call{setTerm(3, 0)}, setTerm(3, 1), api.ErrOld},
		{[]call{setTerm(3, 0)}, setTerm(3, -1), api.ErrOld},
		{[]call{setTerm(3, 0)}, setTerm(3, 0), api.OK},
		{free, setTerm(3, -1), api.OK},
		{free, setTerm(3, 0), api.OK},
		{free, setTerm(3, 4), api.OK},
		{free, setTerm(2, -1), api.ErrOld},
		{free, setTerm(2, 0), api.ErrOld},
		{voted, setTerm(2, api.MaxReplicas), api.ErrArg},
		{voted, setTerm(3, -2), api.ErrArg},
		{voted, setTerm(-1, 1), api.ErrArg},
		{last, setTerm(api.MaxTick, 0), api.OK},
		{last, setTerm(api.MaxTick, 1), api.ErrOld},
		{last, setTerm(api.MaxTick+1, 1), api.ErrArg},
	})
}

func TestP82AppendErrors(t *testing.T) {
	third := []call{setTerm(3, 1)}
	second := []call{setTerm(3, 1), put(2, note(1))}
	wrong := api.Entry{}
	late := note(api.MaxTick + 1)
	checkErrors(t, []errorCase{
		{nil, put(0, note(0)), api.ErrArg},
		{nil, put(1, note(0)), api.ErrOld},
		{[]call{setTerm(0, 1)}, put(0, note(0)), api.ErrArg},
		{third, put(0, note(0)), api.ErrArg},
		{third, put(-1, note(0)), api.ErrArg},
		{third, put(math.MinInt, note(0)), api.ErrArg},
		{third, put(api.MaxTick+1, note(0)), api.ErrArg},
		{third, put(math.MaxInt, note(0)), api.ErrArg},
		{third, put(1, wrong), api.ErrArg},
		{third, put(3, wrong), api.ErrArg},
		{third, put(3, late), api.ErrArg},
		{third, put(4, late), api.ErrArg},
		{third, put(api.MaxTick, wrong), api.ErrArg},
		{third, put(1, note(0)), api.OK},
		{third, put(3, note(api.MaxTick)), api.OK},
		{third, put(4, note(0)), api.ErrOld},
		{third, put(api.MaxTick, note(0)), api.ErrOld},
		{second, put(1, note(0)), api.ErrOld},
		{second, put(2, note(0)), api.OK},
		{second, put(3, note(0)), api.OK},
		{second, put(4, note(0)), api.ErrOld},
		{second, put(1, wrong), api.ErrArg},
		{[]call{setTerm(3, 1), put(1, note(1)), put(3, note(2)), put(3, note(3))}, put(2, note(4)), api.ErrOld},
		{[]call{setTerm(3, 1), put(1, note(1)), put(3, note(2)), cut(1)}, put(2, note(4)), api.OK},
		{[]call{setTerm(3, 1), put(3, note(1)), cut(0)}, put(1, note(4)), api.OK},
		{[]call{setTerm(3, 1), put(3, note(1)), setTerm(9, 0)}, put(4, note(4)), api.OK},
		{[]call{setTerm(api.MaxTick, 1)}, put(api.MaxTick, note(4)), api.OK},
	})
}

func TestP82AppendLimit(t *testing.T) {
	full := append([]call{setTerm(3, 1)}, puts(2, api.MaxEntries)...)
	j := made(t, full...)
	checkCalls(t, j, full...)
	checkErrors(t, []errorCase{
		{full, put(2, note(0)), api.ErrLimit},
		{full, put(3, note(0)), api.ErrLimit},
		{full, put(0, note(0)), api.ErrArg},
		{full, put(3, api.Entry{}), api.ErrArg},
		{full, put(4, note(0)), api.ErrOld},
		{full, put(1, note(0)), api.ErrOld},
		{full, setTerm(3, 1), api.OK},
		{full, cut(api.MaxEntries), api.OK},
		{full, cut(api.MaxEntries + 1), api.ErrArg},
		{append(slices.Clone(full), cut(api.MaxEntries)), put(2, note(0)), api.ErrLimit},
		{append(slices.Clone(full), cut(api.MaxEntries-1)), put(2, note(0)), api.OK},
		{append(slices.Clone(full), cut(api.MaxEntries-1), put(3, note(9))), put(3, note(0)), api.ErrLimit},
	})
}

func TestP82CutErrors(t *testing.T) {
	two := []call{setTerm(3, 1), put(2, note(1)), put(3, note(2))}
	checkErrors(t, []errorCase{
		{nil, cut(0), api.OK},
		{nil, cut(1), api.ErrArg},
		{nil, cut(-1), api.ErrArg},
		{two, cut(math.MinInt), api.ErrArg},
		{two, cut(-1), api.ErrArg},
		{two, cut(0), api.OK},
		{two, cut(1), api.OK},
		{two, cut(2), api.OK},
		{two, cut(3), api.ErrArg},
		{two, cut(1 << 32), api.ErrArg},
		{two, cut(math.MaxInt), api.ErrArg},
		{append(slices.Clone(two), cut(1)), cut(2), api.ErrArg},
	})
}

// Every call of a small range, after every two others: the words of P8.2 decide.
func TestP82AllCallsOfASmallRange(t *testing.T) {
	var l []call
	for term := -1; term <= 3; term++ {
		for vote := -2; vote <= 1; vote++ {
			l = append(l, setTerm(term, vote))
		}
		l = append(l, put(term, note(term+2)), put(term, api.Entry{}))
	}
	for n := -1; n <= 3; n++ {
		l = append(l, cut(n))
	}
	for _, begin := range [][]call{nil, {setTerm(2, -1), put(1, note(1)), put(2, note(2))}} {
		for i := range len(l) * len(l) * len(l) {
			j := made(t, begin...)
			m := remembered(begin...)
			run := slices.Clone(begin)
			for _, a := range []call{l[i/len(l)/len(l)], l[i/len(l)%len(l)], l[i%len(l)]} {
				want := m.errorOf(a)
				if got := do(j, a); got != want {
					t.Fatalf("%v after %v is error %d, not %d", a, run, got, want)
				}
				if want == api.OK {
					m.apply(a)
					run = append(run, a)
				}
			}
			check(t, j, m, written(run...), run)
		}
	}
}

// Calls are pending until they are synced.
func TestP82RecordsArePending(t *testing.T) {
	before := []call{setTerm(3, 1), put(2, note(1)), put(3, note(2))}
	for _, a := range []call{setTerm(3, 1), setTerm(5, 2), put(3, note(3)), cut(0), cut(2)} {
		j := made(t, before...)
		j.Sync()
		mustDo(t, j, a)
		checkCalls(t, j, append(slices.Clone(before), a)...)
		lost, kept := j.Copy(), j.Copy()
		lost.Crash(0)
		checkCalls(t, lost, before...)
		size := len(written(a))
		kept.Crash(size - 1)
		checkCalls(t, kept, before...)
		j.Crash(size)
		checkCalls(t, j, append(slices.Clone(before), a)...)
	}
}

// many are calls with all kinds of records, some of which have no effect on what came before.
func many() []call {
	return []call{setTerm(2, 0), put(1, note(70)), put(2, place(1<<20)), cut(1), setTerm(3, -1), put(3, note(5)), setTerm(3, 4), cut(2), put(3, place(0)), cut(0), setTerm(1<<20, 2), put(1, note(1))}
}

// whole returns the calls whose records lie completely within the first size bytes of a disk.
func whole(calls []call, size int) []call {
	for n := range calls {
		if len(written(calls[:n+1]...)) > size {
			return calls[:n]
		}
	}
	return calls
}

// A crash after every number of synced calls, with every number of bytes that are kept.
func TestP83Crash(t *testing.T) {
	l := many()
	total := len(written(l...))
	for synced := range len(l) + 1 {
		durable := len(written(l[:synced]...))
		for keep := -2; keep <= total-durable+2; keep++ {
			j := made(t, l[:synced]...)
			j.Sync()
			mustDo(t, j, l[synced:]...)
			j.Crash(keep)
			checkCalls(t, j, whole(l, durable+max(keep, 0))...)
		}
		for _, keep := range []int{math.MinInt, math.MaxInt} {
			j := made(t, l[:synced]...)
			j.Sync()
			mustDo(t, j, l[synced:]...)
			j.Crash(keep)
			if keep < 0 {
				checkCalls(t, j, l[:synced]...)
			} else {
				checkCalls(t, j, l...)
			}
		}
	}
}

// What a crash leaves of a record is removed, so that records behind it are read again.
func TestP83CrashTruncates(t *testing.T) {
	l := many()
	total := len(written(l...))
	for keep := range total + 1 {
		j := made(t, l...)
		j.Crash(keep)
		left := whole(l, keep)
		run := append(slices.Clone(left), setTerm(1<<21, 3), put(1<<21, note(99)))
		mustDo(t, j, run[len(left):]...)
		checkCalls(t, j, run...)
		checkCalls(t, journal.Open(j.Bytes()), run...)
		lost := j.Copy()
		lost.Crash(0)
		checkCalls(t, lost, left...)
		j.Sync()
		j.Crash(0)
		checkCalls(t, j, run...)
	}
}

// All that a crash leaves is durable.
func TestP83CrashBehindACrash(t *testing.T) {
	l := many()
	for keep := range len(written(l...)) + 1 {
		j := made(t, l...)
		j.Crash(keep)
		for _, again := range []int{math.MinInt, 0, 1, 5, math.MaxInt} {
			j.Crash(again)
			checkCalls(t, j, whole(l, keep)...)
		}
	}
}

func TestP83SyncChangesNothingElse(t *testing.T) {
	j := journal.New()
	j.Sync()
	check(t, j, remembered(), nil)
	var run []call
	for _, a := range many() {
		run = append(run, a)
		mustDo(t, j, a)
		j.Sync()
		checkCalls(t, j, run...)
		j.Sync()
		checkCalls(t, j, run...)
	}
}

// A crash begins with a new journal: nothing remains of what the bytes do not say.
func TestP83CrashForgets(t *testing.T) {
	j := made(t, setTerm(9, 3), put(4, note(1)))
	j.Crash(-1)
	check(t, j, memory{vote: -1}, nil)
	mustDo(t, j, setTerm(0, 4), setTerm(1, -1), put(1, note(2)))
	checkCalls(t, j, setTerm(0, 4), setTerm(1, -1), put(1, note(2)))
}

func TestP83OpenReadsAllRecords(t *testing.T) {
	l := many()
	for n := range len(l) + 1 {
		checkCalls(t, journal.Open(written(l[:n]...)), l[:n]...)
	}
	for _, b := range [][]byte{nil, {}} {
		check(t, journal.Open(b), memory{vote: -1}, nil)
	}
	b := written(l...)
	for size := range len(b) + 1 {
		checkCalls(t, journal.Open(b[:size]), whole(l, size)...)
	}
}

// The bytes that Open is given are durable.
func TestP83OpenIsDurable(t *testing.T) {
	l := many()
	j := journal.Open(written(l...))
	mustDo(t, j, setTerm(1<<21, 0))
	j.Crash(0)
	checkCalls(t, j, l...)
	j = journal.Open(append(written(l...), framed([]byte{99})...))
	mustDo(t, j, setTerm(1<<21, 0))
	j.Crash(0)
	checkCalls(t, j, l...)
}

// begin returns calls behind which some records are not right.
func begin() []call { return []call{setTerm(3, 1), put(2, note(4)), put(2, place(5))} }

// wrongRecords returns byte strings that are no right records behind begin.
func wrongRecords() map[string][]byte {
	plain := payload(put(2, note(4)))
	return map[string][]byte{
		"no bytes":                             {},
		"no such kind 0":                       ints(0),
		"no such kind 0, with two integers":    ints(0, 3, 1),
		"no such kind 4":                       ints(4),
		"no such kind 4, with an index":        ints(4, 1),
		"no such kind -1":                      ints(-1, 3, 1),
		"a kind that is cut off":               {130},
		"a kind in two bytes":                  {134, 0, 0},
		"a term alone":                         ints(1, 3),
		"kind 1 alone":                         ints(1),
		"a vote that is cut off":               append(ints(1, 3), 130),
		"a vote in two bytes":                  append(ints(1, 3), 130, 0),
		"a term in two bytes":                  append(ints(1), 134, 0, 2),
		"a byte behind a vote":                 ints(1, 3, 1, 0),
		"a term and a vote, twice":             ints(1, 3, 1, 1, 3, 1),
		"an old term":                          ints(1, 2, 1),
		"another vote":                         ints(1, 3, 2),
		"no vote any more":                     ints(1, 3, -1),
		"a vote for no replica":                ints(1, 4, api.MaxReplicas),
		"a vote of -2":                         ints(1, 4, -2),
		"a negative term":                      ints(1, -1, 1),
		"a term that is too great":             ints(1, api.MaxTick+1, 1),
		"the greatest term":                    ints(1, math.MaxInt, 1),
		"kind 2 alone":                         ints(2),
		"a term without an entry":              ints(2, 2),
		"an entry without its last integer":    plain[:len(plain)-1],
		"a byte behind an entry":               append(slices.Clone(plain), 0),
		"an entry in too many bytes":           append(slices.Clone(plain[:len(plain)-1]), 136, 0),
		"an entry of no kind":                  append(ints(2, 2), entry.Bytes(api.Entry{})...),
		"an entry of another shape":            append(ints(2, 2), entry.Bytes(note(-1))...),
		"an entry of term 0":                   payload(put(0, note(4))),
		"an entry of a negative term":          payload(put(-1, note(4))),
		"an entry of a later term":             payload(put(4, note(4))),
		"an entry of a term that is too great": payload(put(api.MaxTick+1, note(4))),
		"an entry of an earlier term":          payload(put(1, note(4))),
		"an entry without a term":              append(ints(2), entry.Bytes(note(4))...),
		"kind 3 alone":                         ints(3),
		"a cut behind the end":                 ints(3, 3),
		"a cut at a negative index":            ints(3, -1),
		"a cut at the least index":             ints(3, math.MinInt),
		"a byte behind a cut":                  ints(3, 1, 0),
		"an index in two bytes":                {6, 130, 0},
		"a corrupt index":                      append([]byte{6}, bytes.Repeat([]byte{255}, 10)...),
		"many bytes":                           make([]byte, api.MaxBytes),
	}
}

func TestP83WrongRecords(t *testing.T) {
	right := written(begin()...)
	behind := written(setTerm(9, 1), cut(0))
	for name, p := range wrongRecords() {
		for _, after := range [][]byte{nil, behind, framed(p)} {
			j := journal.Open(slices.Concat(right, framed(p), after))
			check(t, j, remembered(begin()...), right, name)
			mustDo(t, j, setTerm(9, 1), put(5, note(6)))
			checkCalls(t, journal.Open(j.Bytes()), append(begin(), setTerm(9, 1), put(5, note(6)))...)
		}
	}
}

// Whether a record is right depends on its place.
func TestP83RightAtItsPlace(t *testing.T) {
	for i, c := range []struct {
		calls []call
		right int
	}{
		{[]call{put(1, note(1))}, 0},
		{[]call{cut(1)}, 0},
		{[]call{cut(0), setTerm(0, 1), setTerm(0, 2)}, 2},
		{[]call{setTerm(0, -1), setTerm(0, 1), setTerm(0, 1), setTerm(0, -1)}, 3},
		{[]call{setTerm(1, 0), put(1, note(1)), cut(1), cut(0), cut(1)}, 4},
		{[]call{setTerm(3, 0), put(3, note(1)), put(2, note(1))}, 2},
		{[]call{setTerm(3, 0), put(3, note(1)), cut(0), put(2, note(1)), put(4, note(1)), cut(0)}, 4},
		{[]call{setTerm(3, 0), setTerm(2, 0), setTerm(4, 0)}, 1},
		{[]call{setTerm(3, 0), put(4, note(1)), setTerm(4, 0)}, 1},
		{slices.Concat([]call{setTerm(1, 0)}, puts(1, api.MaxEntries), []call{setTerm(2, 0)}), api.MaxEntries + 2},
		{slices.Concat([]call{setTerm(1, 0)}, puts(1, api.MaxEntries), []call{put(1, note(2)), setTerm(2, 0)}), api.MaxEntries + 1},
		{slices.Concat([]call{setTerm(1, 0)}, puts(1, api.MaxEntries), []call{cut(9), put(1, note(2))}), api.MaxEntries + 3},
	} {
		j := journal.Open(written(c.calls...))
		check(t, j, remembered(c.calls[:c.right]...), written(c.calls[:c.right]...), "case", i)
	}
}

// Frames that are not those of the key 8, or not whole, end the reading.
func TestP83WrongFrames(t *testing.T) {
	right := written(begin()...)
	next := payload(setTerm(9, 1))
	changed := framed(next)
	changed[len(changed)-1] ^= 1
	for name, b := range map[string][]byte{
		"another key":            frame.Put(nil, 9, next),
		"the key 0":              frame.Put(nil, 0, next),
		"a record without frame": next,
		"another byte":           changed,
		"a negative length":      ints(-1),
		"a length in two bytes":  {128, 0},
		"too great a length":     ints(api.MaxBytes + 1),
		"a frame that is cut":    framed(next)[:len(framed(next))-1],
		"zeros":                  make([]byte, 20),
	} {
		check(t, journal.Open(slices.Concat(right, b, framed(next))), remembered(begin()...), right, name)
		check(t, journal.Open(slices.Concat(b, right)), memory{vote: -1}, nil, name)
	}
}

// readBySpec reads the bytes of a disk by the words of P8.3: it returns the calls of the right records.
func readBySpec(b []byte) []call {
	records, _ := frame.All(b, key)
	m := memory{vote: -1}
	var calls []call
	for _, p := range records {
		a, ok := callOf(p)
		if !ok || m.errorOf(a) != api.OK {
			return calls
		}
		m.apply(a)
		calls = append(calls, a)
	}
	return calls
}

// callOf returns the call whose record consists of the bytes p.
func callOf(p []byte) (call, bool) {
	var l []int
	for len(p) > 0 {
		n, size, e := wire.TakeInt(p)
		if e != api.OK {
			return call{}, false
		}
		l = append(l, n)
		p = p[size:]
	}
	switch {
	case len(l) == 3 && l[0] == 1:
		return setTerm(l[1], l[2]), true
	case len(l) == 11 && l[0] == 2:
		return put(l[1], api.Entry{Kind: l[2], Tick: l[3], Tenant: l[4], Cell: l[5], Other: l[6], Epoch: l[7], From: l[8], Until: l[9], N: l[10]}), true
	case len(l) == 2 && l[0] == 3:
		return cut(l[1]), true
	}
	return call{}, false
}

// generated returns a call with arguments around those that are allowed.
func generated(r *rand.Rand, m memory) call {
	switch r.Intn(8) {
	case 0, 1:
		return setTerm(m.term+r.Intn(4)-1, r.Intn(api.MaxReplicas+3)-2)
	case 2:
		return cut(len(m.log) - r.Intn(4))
	case 3:
		return cut(r.Intn(len(m.log)+3) - 1)
	case 4:
		return put(m.term+r.Intn(3)-1, note(r.Intn(3)-1))
	case 5:
		return put(r.Intn(m.term+2), place(r.Intn(1<<20)))
	}
	return put(m.term, note(r.Intn(1000)))
}

// Records that are generated, right ones and wrong ones, in frames and with single bytes changed.
func TestP83OpenOfGeneratedBytes(t *testing.T) {
	r := rand.New(rand.NewSource(83))
	for range 3000 {
		var b []byte
		m := memory{vote: -1}
		for range r.Intn(20) {
			a := generated(r, m)
			p := payload(a)
			switch {
			case m.errorOf(a) == api.OK:
				m.apply(a)
			case r.Intn(4) > 0:
				continue
			}
			if r.Intn(30) == 0 {
				p[r.Intn(len(p))] ^= byte(1 << r.Intn(8))
			}
			if r.Intn(60) == 0 {
				p = append(p, byte(r.Intn(3)))
			}
			b = append(b, framed(p)...)
		}
		if len(b) > 0 && r.Intn(4) == 0 {
			b[r.Intn(len(b))] ^= byte(1 << r.Intn(8))
		}
		checkCalls(t, journal.Open(b), readBySpec(b)...)
	}
}

// model is a journal by the chapter's definitions: the records on its disk, and how many bytes of them are synced.
type model struct {
	calls  []call
	synced int
}

// step changes a journal and its model, and checks that they are alike.
func step(t *testing.T, r *rand.Rand, j *journal.Journal, m *model) {
	t.Helper()
	switch r.Intn(20) {
	case 0, 1:
		j.Sync()
		m.synced = len(written(m.calls...))
	case 2:
		keep := r.Intn(80) - 5
		j.Crash(keep)
		m.calls = slices.Clone(whole(m.calls, m.synced+max(keep, 0)))
		m.synced = len(written(m.calls...))
	default:
		now := remembered(m.calls...)
		a := generated(r, now)
		want := now.errorOf(a)
		if got := do(j, a); got != want {
			t.Fatalf("%v after %v is error %d, not %d", a, m.calls, got, want)
		}
		if want == api.OK {
			m.calls = append(m.calls, a)
		}
	}
	checkCalls(t, j, m.calls...)
}

func TestP81P82P83GeneratedRuns(t *testing.T) {
	r := rand.New(rand.NewSource(8))
	for range 100 {
		j := journal.New()
		var m model
		for range 60 {
			step(t, r, j, &m)
		}
	}
}

// The journal after a crash is that of a beginning of its records, which contains all that were synced; and Open(Bytes()) is the same journal.
func TestConsequences(t *testing.T) {
	r := rand.New(rand.NewSource(88))
	for range 60 {
		j := journal.New()
		var m model
		for range 40 {
			step(t, r, j, &m)
			checkCalls(t, journal.Open(j.Bytes()), m.calls...)
			for _, keep := range []int{math.MinInt, 0, 7, 20, math.MaxInt} {
				c := j.Copy()
				c.Crash(keep)
				left := c.Bytes()
				if !bytes.HasPrefix(j.Bytes(), left) || len(left) < m.synced {
					t.Fatalf("Crash(%d) leaves %d bytes of %d, %d of them synced", keep, len(left), len(j.Bytes()), m.synced)
				}
				checkCalls(t, c, readBySpec(left)...)
			}
		}
	}
}

func TestExamples(t *testing.T) {
	j := made(t, setTerm(3, 1))
	j.Crash(0)
	check(t, j, memory{term: 0, vote: -1}, nil)
	j = made(t, setTerm(3, 1))
	j.Sync()
	j.Crash(0)
	check(t, j, memory{term: 3, vote: 1}, written(setTerm(3, 1)))
	if e := made(t, setTerm(3, 1)).SetTerm(3, 2); e != api.ErrOld {
		t.Errorf("a second vote is error %d", e)
	}
}

// What becomes of a journal leaves its copy as it is, and the other way round: what is synced and what is pending is copied, too.
func TestP83CopyIsIndependent(t *testing.T) {
	l := many()
	acts := []func(j *journal.Journal){
		func(j *journal.Journal) { j.SetTerm(1<<22, 4) },
		func(j *journal.Journal) { j.Append(j.Term(), note(50)) },
		func(j *journal.Journal) { j.Cut(0); j.Append(j.Term(), note(51)); j.Append(j.Term(), note(52)) },
		func(j *journal.Journal) { j.Cut(0) },
		func(j *journal.Journal) { j.Sync() },
		func(j *journal.Journal) { j.Crash(0) },
		func(j *journal.Journal) { j.Crash(20) },
	}
	for synced := range len(l) + 1 {
		for calls := synced; calls <= len(l); calls++ {
			for _, act := range acts {
				j := made(t, l[:synced]...)
				j.Sync()
				mustDo(t, j, l[synced:calls]...)
				changed, still := j.Copy(), j.Copy()
				checkCalls(t, still, l[:calls]...)
				act(changed)
				checkCalls(t, j, l[:calls]...)
				checkCalls(t, still, l[:calls]...)
				act(j)
				checkCalls(t, still, l[:calls]...)
				check(t, j, memory{changed.Term(), changed.Vote(), logOf(changed)}, changed.Bytes())
				still.Crash(0)
				checkCalls(t, still, l[:synced]...)
				check(t, j, memory{changed.Term(), changed.Vote(), logOf(changed)}, changed.Bytes())
			}
		}
	}
}

// logOf returns all entries of a journal.
func logOf(j *journal.Journal) []api.Logged {
	var out []api.Logged
	for i := range j.Len() {
		l, _ := j.At(i)
		out = append(out, l)
	}
	return out
}

// Both a journal and its copy have room behind their entries, into which both write.
func TestP83CopyHasRoomOfItsOwn(t *testing.T) {
	j := made(t, append([]call{setTerm(2, 0)}, puts(2, 100)...)...)
	mustDo(t, j, cut(1))
	c := j.Copy()
	mustDo(t, j, put(2, note(11)))
	mustDo(t, c, put(2, note(12)))
	if l, _ := j.At(1); l.Entry != note(11) {
		t.Errorf("the journal has the entry %v", l)
	}
	if l, _ := c.At(1); l.Entry != note(12) {
		t.Errorf("the copy has the entry %v", l)
	}
}

func TestR2OpenLeavesItsArgumentAlone(t *testing.T) {
	l := many()
	extra := written(setTerm(1<<21, 0))
	b := append(written(l...), extra...)
	size := len(b) - len(extra)
	want := slices.Clone(b)
	// The spare capacity holds a right record, which is not read.
	j := journal.Open(b[:size])
	checkCalls(t, j, l...)
	mustDo(t, j, setTerm(1<<22, 0), put(1<<22, note(1)))
	j.Crash(0)
	mustDo(t, j, cut(0))
	if !bytes.Equal(b, want) {
		t.Error("Open changes its argument or the capacity behind it, or later calls do")
	}
	clear(b)
	checkCalls(t, j, append(slices.Clone(l), cut(0))...)
}

func TestR2BytesAreNewMemory(t *testing.T) {
	l := many()
	j := made(t, l...)
	first, second := j.Bytes(), j.Bytes()
	clear(first[:cap(first)])
	checkCalls(t, j, l...)
	if !bytes.Equal(second, written(l...)) {
		t.Error("two results of Bytes share memory")
	}
	j.Crash(0)
	mustDo(t, j, setTerm(8, 1), setTerm(9, 2))
	if !bytes.Equal(second, written(l...)) {
		t.Error("a result of Bytes changes with the journal")
	}
}

// Reading changes nothing, whichever entries are asked for.
func TestR2ReadingChangesNothing(t *testing.T) {
	l := many()
	j := made(t, l...)
	for range 3 {
		for _, i := range []int{math.MinInt, -1, 0, 1, 99, math.MaxInt} {
			j.At(i)
			j.TermAt(i)
		}
		mustDo(t, j.Copy(), cut(0))
		checkCalls(t, j, l...)
	}
	j.Crash(0)
	check(t, j, memory{vote: -1}, nil)
}

// Acts on several journals alternate; each of them behaves as if it were alone.
func TestR3JournalsAreSeparate(t *testing.T) {
	r := rand.New(rand.NewSource(3))
	journals := [3]*journal.Journal{journal.New(), journal.New(), journal.Open(nil)}
	var models [3]model
	for range 300 {
		i := r.Intn(len(journals))
		step(t, r, journals[i], &models[i])
		for k := range journals {
			checkCalls(t, journals[k], models[k].calls...)
		}
	}
	check(t, journal.New(), memory{vote: -1}, nil)
}
