package disk_test

import (
	"bytes"
	"math"
	"math/rand"
	"slices"
	"testing"

	"cellplane/api"
	"cellplane/disk"
)

// stored is a byte of a disk, as the chapter describes it.
type stored struct {
	value   byte
	durable bool
}

// model is a disk by the chapter's definitions: byte for byte, what survives a crash and what does not.
type model []stored

// act is a call that may change a disk; b is what Append adds, n the argument of Truncate and Crash.
type act struct {
	name string
	b    []byte
	n    int
}

// synced returns the bytes of a model, all of them durable.
func (m model) synced() model {
	var out model
	for _, x := range m {
		out = append(out, stored{x.value, true})
	}
	return out
}

// crashed returns what a crash leaves: the durable bytes and the first keep of the pending ones.
func (m model) crashed(keep int) model {
	var out model
	for _, x := range m {
		if !x.durable && keep <= 0 {
			continue
		}
		if !x.durable {
			keep--
		}
		out = append(out, stored{x.value, true})
	}
	return out
}

// after returns what an act makes of a model, and the error that it should return.
func (m model) after(a act) (model, api.Errno) {
	switch a.name {
	case "append":
		out := slices.Clone(m)
		for _, x := range a.b {
			out = append(out, stored{x, false})
		}
		return out, api.OK
	case "sync":
		return m.synced(), api.OK
	case "truncate":
		if a.n < 0 || a.n > len(m) {
			return m, api.ErrArg
		}
		return slices.Clone(m[:a.n]), api.OK
	}
	return m.crashed(a.n), api.OK
}

// do performs an act on a disk.
func do(d *disk.Disk, a act) api.Errno {
	switch a.name {
	case "append":
		d.Append(a.b)
	case "sync":
		d.Sync()
	case "truncate":
		return d.Truncate(a.n)
	case "crash":
		d.Crash(a.n)
	}
	return api.OK
}

// put, syncs, truncate and crash are the acts.
func put(b ...byte) act  { return act{name: "append", b: b} }
func syncs() act         { return act{name: "sync"} }
func truncate(n int) act { return act{name: "truncate", n: n} }
func crash(keep int) act { return act{name: "crash", n: keep} }

// made returns a new disk after some acts.
func made(l ...act) *disk.Disk {
	d := disk.New()
	for _, a := range l {
		do(d, a)
	}
	return d
}

// filled returns n bytes, of which neighbors differ.
func filled(n int) []byte {
	b := make([]byte, n)
	for i := range b {
		b[i] = byte(i*7 + i>>8)
	}
	return b
}

// check compares a disk with its bytes and the number of the durable ones.
func check(t *testing.T, d *disk.Disk, want []byte, durable int, acts ...act) {
	t.Helper()
	if got := d.Bytes(); !bytes.Equal(got, want) || d.Durable() != durable {
		t.Errorf("%d bytes from %v, %d durable, not %d bytes from %v, %d durable, after %v",
			len(got), got[:min(len(got), 20)], d.Durable(), len(want), want[:min(len(want), 20)], durable, acts)
	}
}

// checkModel compares a disk with a model.
func checkModel(t *testing.T, d *disk.Disk, m model, acts ...act) {
	t.Helper()
	var want []byte
	durable := 0
	for _, x := range m {
		want = append(want, x.value)
		if x.durable {
			durable++
		}
	}
	check(t, d, want, durable, acts...)
}

// checkRun performs acts on a new disk, and compares it with the model after each of them.
func checkRun(t *testing.T, acts ...act) {
	t.Helper()
	d := disk.New()
	var m model
	for i, a := range acts {
		var want api.Errno
		m, want = m.after(a)
		if got := do(d, a); got != want {
			t.Errorf("error %d, not %d, of the last of %v", got, want, acts[:i+1])
		}
		checkModel(t, d, m, acts[:i+1]...)
	}
}

func TestP71NewIsEmpty(t *testing.T) {
	d := disk.New()
	check(t, d, nil, 0)
	d.Sync()
	check(t, d, nil, 0, syncs())
	if e := d.Truncate(0); e != api.OK {
		t.Errorf("Truncate(0) of an empty disk is error %d", e)
	}
	check(t, d, nil, 0, syncs(), truncate(0))
}

func TestP71AppendAddsPendingBytesAtTheEnd(t *testing.T) {
	check(t, made(put(1, 2, 3)), []byte{1, 2, 3}, 0)
	check(t, made(put(1, 2), put(3), put(4, 5)), []byte{1, 2, 3, 4, 5}, 0)
	check(t, made(put(1, 2), syncs(), put(3)), []byte{1, 2, 3}, 2)
	check(t, made(put(1, 2), syncs(), put(3), put(4)), []byte{1, 2, 3, 4}, 2)
	check(t, made(put(0, 255, 0)), []byte{0, 255, 0}, 0)
}

func TestP71AppendOfNothing(t *testing.T) {
	for _, b := range [][]byte{nil, {}} {
		d := disk.New()
		d.Append(b)
		check(t, d, nil, 0)
		d.Append([]byte{1, 2})
		d.Sync()
		d.Append([]byte{3})
		d.Append(b)
		check(t, d, []byte{1, 2, 3}, 2)
	}
}

func TestP71SyncMakesAllBytesDurable(t *testing.T) {
	check(t, made(put(1, 2, 3), syncs()), []byte{1, 2, 3}, 3)
	check(t, made(put(1, 2), syncs(), put(3), syncs()), []byte{1, 2, 3}, 3)
	check(t, made(put(1, 2), syncs(), syncs()), []byte{1, 2}, 2)
	check(t, made(put(1, 2, 3), truncate(2), syncs()), []byte{1, 2}, 2)
}

// Truncate at every number of bytes, with every number of durable ones.
func TestP71Truncate(t *testing.T) {
	const size = 9
	whole := filled(size)
	for durable := range size + 1 {
		for n := range size + 1 {
			d := made(put(whole[:durable]...), syncs(), put(whole[durable:]...))
			if e := d.Truncate(n); e != api.OK {
				t.Errorf("Truncate(%d) of %d bytes is error %d", n, size, e)
			}
			check(t, d, whole[:n], min(durable, n), truncate(n))
		}
	}
}

func TestP71TruncateOutOfRange(t *testing.T) {
	for _, l := range [][]act{{}, {put(1, 2, 3)}, {put(1, 2, 3), syncs()}, {put(1, 2), syncs(), put(3)}, {put(1, 2, 3, 4), syncs(), truncate(3)}} {
		d := made(l...)
		want, durable := d.Bytes(), d.Durable()
		for _, n := range []int{math.MinInt, -1 << 32, -2, -1, len(want) + 1, len(want) + 2, 1 << 32, math.MaxInt} {
			if e := d.Truncate(n); e != api.ErrArg {
				t.Errorf("Truncate(%d) of %d bytes is error %d, not ErrArg", n, len(want), e)
			}
			check(t, d, want, durable, append(slices.Clone(l), truncate(n))...)
		}
	}
}

// What was removed comes back neither by a crash nor by a sync, though it was durable and no sync followed.
func TestP71TruncateRemovesForGood(t *testing.T) {
	check(t, made(put(1, 2, 3), syncs(), truncate(1), crash(9)), []byte{1}, 1)
	check(t, made(put(1, 2, 3), syncs(), truncate(0), crash(math.MaxInt)), nil, 0)
	check(t, made(put(1, 2, 3), syncs(), truncate(1), syncs()), []byte{1}, 1)
	check(t, made(put(1, 2, 3), truncate(1), crash(9)), []byte{1}, 1)
	check(t, made(put(1), syncs(), put(2, 3, 4), truncate(2), crash(9)), []byte{1, 2}, 2)
}

// Pending bytes that Truncate leaves stay pending.
func TestP71TruncateSyncsNothing(t *testing.T) {
	check(t, made(put(1), syncs(), put(2, 3), truncate(2), crash(0)), []byte{1}, 1)
	check(t, made(put(1, 2), truncate(2), crash(0)), nil, 0)
}

// Bytes that follow a Truncate are pending, where removed ones were durable.
func TestP71AppendBehindTruncate(t *testing.T) {
	check(t, made(put(1, 2, 3), syncs(), truncate(1), put(4, 5)), []byte{1, 4, 5}, 1)
	check(t, made(put(1, 2, 3), syncs(), truncate(1), put(4, 5), crash(1)), []byte{1, 4}, 2)
	check(t, made(put(1, 2, 3), syncs(), truncate(0), put(4), crash(0)), nil, 0)
}

func TestP71LargeDisks(t *testing.T) {
	d := disk.New()
	var want []byte
	for _, n := range []int{api.MaxBytes, 1, 3 * api.MaxBytes} {
		d.Append(filled(n))
		want = append(want, filled(n)...)
		check(t, d, want, 0)
	}
	d.Sync()
	synced := len(want)
	for range 2000 {
		d.Append([]byte{1, 2, 3})
		want = append(want, 1, 2, 3)
	}
	check(t, d, want, synced)
	d.Crash(4)
	check(t, d, want[:synced+4], synced+4)
}

// acts returns one act of each kind, with arguments that differ in what they do to short disks.
func acts() []act {
	return []act{put(201), put(202, 203), syncs(), truncate(0), truncate(1), truncate(2), truncate(-1), truncate(99), crash(-1), crash(0), crash(1), crash(math.MaxInt)}
}

// begun returns lists of acts that make disks without bytes, with pending bytes, with durable ones and with both.
func begun() [][]act {
	return [][]act{
		{},
		{put(1, 2, 3)},
		{put(1, 2, 3), syncs()},
		{put(1, 2), syncs(), put(3, 4)},
		{put(1, 2, 3, 4), syncs(), truncate(2)},
		{put(1, 2), syncs(), put(3, 4), truncate(3)},
		{put(1, 2), syncs(), put(3, 4), crash(1)},
		{put(1, 2), syncs(), put(3, 4), truncate(0)},
	}
}

// What becomes of a disk leaves its copy as it is, and the other way round.
func TestP71CopyIsIndependent(t *testing.T) {
	for _, l := range begun() {
		for _, first := range acts() {
			for _, second := range acts() {
				d := made(l...)
				want, durable := d.Bytes(), d.Durable()
				run := append(slices.Clone(l), first, second)
				c := d.Copy()
				check(t, c, want, durable, l...)
				do(d, first)
				do(d, second)
				check(t, c, want, durable, run...)
				changed, changedDurable := d.Bytes(), d.Durable()
				do(c, second)
				do(c, first)
				check(t, d, changed, changedDurable, run...)
			}
		}
	}
}

// Both a disk and its copy have room behind their bytes, into which both write.
func TestP71CopyHasRoomOfItsOwn(t *testing.T) {
	d := made(put(filled(1000)...), syncs(), truncate(10))
	c := d.Copy()
	d.Append([]byte{1, 2})
	c.Append([]byte{3, 4})
	check(t, d, append(filled(10), 1, 2), 10)
	check(t, c, append(filled(10), 3, 4), 10)
	d.Truncate(0)
	e := d.Copy()
	d.Append([]byte{5})
	e.Append([]byte{6})
	check(t, d, []byte{5}, 0)
	check(t, e, []byte{6}, 0)
}

// A copy behaves as the disk does, whatever follows.
func TestP71CopyBehavesAlike(t *testing.T) {
	for _, l := range begun() {
		for _, first := range acts() {
			for _, second := range acts() {
				d := made(l...)
				c := d.Copy()
				if do(d, first) != do(c, first) || do(d, second) != do(c, second) {
					t.Errorf("a copy returns other errors after %v, %v, %v", l, first, second)
				}
				check(t, c, d.Bytes(), d.Durable(), append(slices.Clone(l), first, second)...)
			}
		}
	}
}

// A crash with every number of durable and of pending bytes, and every keep around their number.
func TestP72Crash(t *testing.T) {
	const most = 6
	whole := filled(2 * most)
	for durable := range most {
		for pending := range most {
			for keep := -2; keep <= 2*most; keep++ {
				d := made(put(whole[:durable]...), syncs(), put(whole[durable:durable+pending]...))
				d.Crash(keep)
				left := durable + max(0, min(keep, pending))
				check(t, d, whole[:left], left, crash(keep))
			}
		}
	}
}

func TestP72CrashOfExtremes(t *testing.T) {
	for _, l := range begun() {
		d := made(l...)
		all, durable := d.Bytes(), d.Durable()
		for _, keep := range []int{math.MinInt, math.MinInt + 1, -1 << 32, -1 << 31} {
			c := d.Copy()
			c.Crash(keep)
			check(t, c, all[:durable], durable, append(slices.Clone(l), crash(keep))...)
		}
		for _, keep := range []int{math.MaxInt, math.MaxInt - 1, math.MaxInt - len(all), 1 << 32, 1 << 31} {
			c := d.Copy()
			c.Crash(keep)
			check(t, c, all, len(all), append(slices.Clone(l), crash(keep))...)
		}
	}
}

// What a crash removes does not come back, and what is appended behind it is pending.
func TestP72AppendBehindCrash(t *testing.T) {
	check(t, made(put(1), syncs(), put(2, 3), crash(1), put(4)), []byte{1, 2, 4}, 2)
	check(t, made(put(1), syncs(), put(2, 3), crash(0), put(4), crash(9)), []byte{1, 4}, 2)
	check(t, made(put(1, 2), crash(0), syncs()), nil, 0)
	check(t, made(put(1, 2), crash(1), put(3), crash(0)), []byte{1}, 1)
}

// Every sequence of four acts on a disk.
func TestP71P72ShortRuns(t *testing.T) {
	l := acts()
	for i := range len(l) * len(l) * len(l) * len(l) {
		run := []act{put(1, 2, 3)}
		for range 4 {
			run = append(run, l[i%len(l)])
			i /= len(l)
		}
		checkRun(t, run...)
	}
}

// generated returns an act with arguments around the number of bytes.
func generated(r *rand.Rand, size int) act {
	switch r.Intn(7) {
	case 0, 1, 2:
		b := make([]byte, r.Intn(20))
		r.Read(b)
		return put(b...)
	case 3:
		return syncs()
	case 4:
		return truncate(r.Intn(size+4) - 2)
	case 5:
		return truncate(size - r.Intn(5))
	}
	return crash(r.Intn(30) - 5)
}

func TestP71P72GeneratedRuns(t *testing.T) {
	r := rand.New(rand.NewSource(7))
	for range 300 {
		var m model
		var run []act
		for range 60 {
			a := generated(r, len(m))
			m, _ = m.after(a)
			run = append(run, a)
		}
		checkRun(t, run...)
	}
}

// What is durable at some time is still there at every later one, whatever crashes, as long as nothing is truncated.
func TestConsequenceWhatWasSyncedSurvives(t *testing.T) {
	r := rand.New(rand.NewSource(71))
	for range 300 {
		d := disk.New()
		var kept []byte
		for range 40 {
			a := generated(r, len(kept))
			if a.name == "truncate" {
				continue
			}
			do(d, a)
			for _, keep := range []int{math.MinInt, 0, 3, math.MaxInt} {
				c := d.Copy()
				c.Crash(keep)
				if !bytes.HasPrefix(c.Bytes(), kept) {
					t.Errorf("Crash(%d) after %v leaves %v, which does not begin with %v", keep, a, c.Bytes(), kept)
				}
			}
			if d.Durable() < len(kept) {
				t.Errorf("%v leaves %d durable bytes of %d", a, d.Durable(), len(kept))
			}
			kept = d.Bytes()[:d.Durable()]
		}
	}
}

func TestConsequenceACrashBehindACrash(t *testing.T) {
	for _, l := range begun() {
		for _, keep := range []int{math.MinInt, -1, 0, 1, 2, 3, 99, math.MaxInt} {
			d := made(append(slices.Clone(l), crash(keep))...)
			want := d.Bytes()
			for _, again := range []int{math.MinInt, -1, 0, 1, 2, 3, 99, math.MaxInt} {
				d.Crash(again)
				check(t, d, want, len(want), append(slices.Clone(l), crash(keep), crash(again))...)
			}
		}
	}
}

func TestExamples(t *testing.T) {
	check(t, made(put(1, 2, 3), crash(1)), []byte{1}, 1)
	check(t, made(put(1), syncs(), put(2), crash(0)), []byte{1}, 1)
}

func TestR2AppendLeavesItsArgumentAlone(t *testing.T) {
	for _, before := range []int{0, 1, 1000} {
		d := made(put(filled(before)...))
		whole := filled(50)
		d.Append(whole[:20])
		want := append(filled(before), filled(20)...)
		d.Append([]byte{77, 78})
		d.Crash(before + 3)
		d.Append([]byte{79})
		if !bytes.Equal(whole, filled(50)) {
			t.Error("Append changes its argument or the capacity behind it, or later calls do")
		}
		clear(whole)
		check(t, d, append(want[:before+3:before+3], 79), before+3)
	}
}

// The spare capacity holds other bytes, which are not appended.
func TestR2SpareCapacityIsNotRead(t *testing.T) {
	d := disk.New()
	d.Append(filled(50)[:0])
	check(t, d, nil, 0)
	d.Append(filled(50)[:3])
	check(t, d, filled(3), 0)
}

func TestR2BytesAreNewMemory(t *testing.T) {
	for _, l := range begun() {
		d := made(append([]act{put(filled(100)...), truncate(0)}, l...)...)
		want, durable := made(l...).Bytes(), made(l...).Durable()
		first, second := d.Bytes(), d.Bytes()
		spare := first[:cap(first)]
		for i := range spare {
			spare[i] = 77
		}
		first = append(first, 78)
		check(t, d, want, durable, l...)
		if !bytes.Equal(second, want) {
			t.Errorf("two results of Bytes share memory after %v", l)
		}
		d.Append([]byte{79})
		d.Truncate(0)
		d.Append(bytes.Repeat([]byte{80}, 20))
		if !bytes.Equal(second, want) || first[len(first)-1] != 78 {
			t.Errorf("a result of Bytes changes with the disk after %v", l)
		}
	}
}

// The bytes of a disk are appended to it.
func TestR2AppendOfItsOwnBytes(t *testing.T) {
	d := made(put(1, 2, 3), syncs())
	d.Append(d.Bytes())
	check(t, d, []byte{1, 2, 3, 1, 2, 3}, 3)
	d.Append(d.Bytes()[1:4])
	check(t, d, []byte{1, 2, 3, 1, 2, 3, 2, 3, 1}, 3)
}

// Reading changes nothing.
func TestR2BytesDurableAndCopyOnlyRead(t *testing.T) {
	for _, l := range begun() {
		d := made(l...)
		var m model
		for _, a := range l {
			m, _ = m.after(a)
		}
		for range 3 {
			d.Bytes()
			d.Durable()
			d.Copy().Sync()
			checkModel(t, d, m, l...)
		}
	}
}

// Acts on several disks alternate; each of them behaves as if it were alone.
func TestR3DisksAreSeparate(t *testing.T) {
	r := rand.New(rand.NewSource(3))
	disks := [3]*disk.Disk{disk.New(), disk.New(), disk.New()}
	var models [3]model
	for range 3000 {
		i := r.Intn(len(disks))
		a := generated(r, len(models[i]))
		do(disks[i], a)
		models[i], _ = models[i].after(a)
		for k := range disks {
			checkModel(t, disks[k], models[k], a)
		}
	}
	check(t, disk.New(), nil, 0)
}
