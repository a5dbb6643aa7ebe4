package frame_test

import (
	"bytes"
	"math"
	"slices"
	"testing"

	"cellplane/api"
	"cellplane/digest"
	"cellplane/frame"
	"cellplane/wire"
)

// sumSize is the number of bytes of a sum in a frame.
const sumSize = 8

// written are frames whose bytes were computed by another program.
var written = []struct {
	key   int
	p     []byte
	bytes []byte
}{
	{0, nil, []byte{0, 9, 185, 241, 1, 184, 95, 216, 34}},
	{0, []byte{}, []byte{0, 9, 185, 241, 1, 184, 95, 216, 34}},
	{5, nil, []byte{0, 4, 112, 180, 1, 184, 41, 223, 34}},
	{-1, nil, []byte{0, 199, 162, 105, 185, 113, 150, 207, 21}},
	{5, []byte{0}, []byte{2, 40, 29, 133, 72, 173, 232, 163, 245, 0}},
	{7, []byte("abc"), []byte{6, 53, 60, 20, 80, 14, 133, 138, 238, 97, 98, 99}},
	{math.MinInt, []byte{255, 128, 0, 1}, []byte{8, 239, 157, 182, 207, 223, 98, 131, 88, 255, 128, 0, 1}},
	{math.MaxInt, []byte{255, 128, 0, 1}, []byte{8, 241, 165, 82, 184, 35, 120, 44, 192, 255, 128, 0, 1}},
	{3, make([]byte, 64), append([]byte{128, 1, 32, 105, 213, 90, 88, 47, 12, 250}, make([]byte, 64)...)},
}

// keys are keys of both signs and of all magnitudes.
var keys = []int{0, 1, -1, 5, 1 << 40, math.MaxInt, math.MinInt}

// withLength returns the bytes of a length, of the sum of p under a key, and of p: a frame if the length is that of p.
func withLength(length, key int, p []byte) []byte {
	out := wire.Int(nil, length)
	rest := digest.Sum(key, p)
	for range sumSize {
		out = append(out, byte(rest%256))
		rest /= 256
	}
	return append(out, p...)
}

// framed returns the frame of p under a key, by the chapter's definition.
func framed(key int, p []byte) []byte { return withLength(len(p), key, p) }

// filled returns n bytes, of which neighbors differ.
func filled(n int) []byte {
	p := make([]byte, n)
	for i := range p {
		p[i] = byte(i*7 + i>>8)
	}
	return p
}

// records returns byte strings of several lengths, the edges of the lengths of lengths among them.
func records() [][]byte {
	l := [][]byte{nil, {}, {0}, {255}, {128, 128}, []byte("abc"), framed(5, []byte("inner")), make([]byte, 30)}
	for _, n := range []int{63, 64, 8191, 8192, api.MaxBytes - 1, api.MaxBytes} {
		l = append(l, filled(n))
	}
	return l
}

// equalLists reports whether two lists contain the same byte strings.
func equalLists(a, b [][]byte) bool { return slices.EqualFunc(a, b, bytes.Equal) }

func TestP31PutWritesGivenBytes(t *testing.T) {
	for _, c := range written {
		if got := frame.Put(nil, c.key, c.p); !bytes.Equal(got, c.bytes) {
			t.Errorf("Put(nil, %d, %v) is %v, not %v", c.key, c.p, got, c.bytes)
		}
	}
}

func TestP31PutFollowsTheDefinition(t *testing.T) {
	for _, p := range records() {
		for _, key := range keys {
			for _, before := range [][]byte{nil, {}, {0}, {128, 255, 1}, framed(key, p), filled(1000)} {
				want := append(slices.Clone(before), framed(key, p)...)
				if got := frame.Put(before, key, p); !bytes.Equal(got, want) {
					t.Errorf("Put of %d bytes behind %d bytes under the key %d: %d bytes, not %d, or other ones", len(p), len(before), key, len(got), len(want))
				}
			}
		}
	}
}

func TestP31PutOfTooManyBytes(t *testing.T) {
	for _, n := range []int{api.MaxBytes + 1, api.MaxBytes + 2, 3 * api.MaxBytes} {
		for _, before := range [][]byte{nil, {}, {9}, {128, 255, 1}, framed(5, []byte("abc"))} {
			if got := frame.Put(before, 5, filled(n)); !bytes.Equal(got, before) {
				t.Errorf("Put of %d bytes behind %d bytes: %d bytes", n, len(before), len(got))
			}
		}
	}
}

func TestP32TakeReturnsWhatPutWrote(t *testing.T) {
	for _, p := range records() {
		for _, key := range keys {
			put := frame.Put(nil, key, p)
			for _, after := range [][]byte{nil, {0}, {128}, {255, 255, 255}, put} {
				got, size, e := frame.Take(append(slices.Clone(put), after...), key)
				if !bytes.Equal(got, p) || size != len(put) || e != api.OK {
					t.Errorf("Take of a frame of %d bytes with %d bytes behind it: %d bytes, %d, %d", len(p), len(after), len(got), size, e)
				}
			}
		}
	}
}

func TestP32TakeOfGivenBytes(t *testing.T) {
	for _, c := range written {
		if p, size, e := frame.Take(c.bytes, c.key); !bytes.Equal(p, c.p) || size != len(c.bytes) || e != api.OK {
			t.Errorf("Take(%v, %d) is %v, %d, %d", c.bytes, c.key, p, size, e)
		}
	}
}

// checkTakeFails reports a Take that does not return the error, or returns something beside it.
func checkTakeFails(t *testing.T, b []byte, key int, want api.Errno) {
	t.Helper()
	if p, size, e := frame.Take(b, key); len(p) != 0 || size != 0 || e != want {
		t.Errorf("Take of %d bytes from %v is %d bytes, %d, %d, not error %d", len(b), b[:min(len(b), 20)], len(p), size, e, want)
	}
}

func TestP32LengthThatIsNoInteger(t *testing.T) {
	short := [][]byte{nil, {}, {128}, {255, 128}, bytes.Repeat([]byte{128}, 9)}
	for _, b := range short {
		checkTakeFails(t, b, 5, api.ErrShort)
	}
	corrupt := [][]byte{{128, 0}, {129, 128, 0}, bytes.Repeat([]byte{128}, 10), append(bytes.Repeat([]byte{128}, 9), 2)}
	for _, b := range corrupt {
		checkTakeFails(t, b, 5, api.ErrCorrupt)
	}
	// The length of three bytes, written in more bytes than it needs, with the sum and the bytes that belong to it.
	padded := append([]byte{134, 0}, framed(5, []byte("abc"))[1:]...)
	checkTakeFails(t, padded, 5, api.ErrCorrupt)
}

func TestP32NegativeLength(t *testing.T) {
	for _, length := range []int{-1, -2, -api.MaxBytes - 1, math.MinInt} {
		checkTakeFails(t, wire.Int(nil, length), 5, api.ErrCorrupt)
		checkTakeFails(t, withLength(length, 5, nil), 5, api.ErrCorrupt)
		checkTakeFails(t, withLength(length, 5, filled(100)), 5, api.ErrCorrupt)
	}
}

func TestP32LengthAboveTheLimit(t *testing.T) {
	for _, length := range []int{api.MaxBytes + 1, api.MaxBytes + 2, math.MaxInt - 9, math.MaxInt} {
		checkTakeFails(t, wire.Int(nil, length), 5, api.ErrLimit)
		checkTakeFails(t, withLength(length, 5, []byte("abc")), 5, api.ErrLimit)
	}
	checkTakeFails(t, framed(5, filled(api.MaxBytes+1)), 5, api.ErrLimit)
}

func TestP32FrameThatEndsTooEarly(t *testing.T) {
	for _, p := range [][]byte{nil, {0}, []byte("abc"), filled(63), filled(64), filled(8192)} {
		whole := framed(5, p)
		for n := range len(whole) {
			checkTakeFails(t, whole[:n:n], 5, api.ErrShort)
		}
	}
	whole := framed(5, filled(api.MaxBytes))
	for _, n := range []int{3, 3 + sumSize, len(whole) - sumSize, len(whole) - 1} {
		checkTakeFails(t, whole[:n:n], 5, api.ErrShort)
	}
}

func TestP32SumThatDoesNotFit(t *testing.T) {
	for _, p := range [][]byte{nil, {0}, []byte("abc"), filled(64), filled(api.MaxBytes)} {
		good := framed(5, p)
		checkTakeFails(t, good, 6, api.ErrCorrupt)
		checkTakeFails(t, good, -5, api.ErrCorrupt)
		begin := len(good) - len(p) - sumSize
		zeros := slices.Clone(good)
		clear(zeros[begin : begin+sumSize])
		checkTakeFails(t, zeros, 5, api.ErrCorrupt)
		highestFirst := slices.Clone(good)
		slices.Reverse(highestFirst[begin : begin+sumSize])
		checkTakeFails(t, highestFirst, 5, api.ErrCorrupt)
		checkTakeFails(t, append(slices.Clone(zeros), good...), 5, api.ErrCorrupt)
	}
	// A length that is too small by one, with the sum of all the bytes.
	checkTakeFails(t, withLength(2, 5, []byte("abc")), 5, api.ErrCorrupt)
}

func TestP32OrderOfErrors(t *testing.T) {
	// The frame ends too early, and the sum is not that of the bytes that are there.
	checkTakeFails(t, withLength(4, 5, []byte("abc")), 5, api.ErrShort)
	checkTakeFails(t, withLength(4, 6, []byte("abc")), 5, api.ErrShort)
	// The length is above the limit, and the sum is that of no bytes.
	checkTakeFails(t, withLength(api.MaxBytes+1, 6, nil), 5, api.ErrLimit)
	// The length is negative, and there is no sum.
	checkTakeFails(t, wire.Int(nil, -api.MaxBytes-1), 5, api.ErrCorrupt)
}

// checkAll compares All with what it should return.
func checkAll(t *testing.T, b []byte, key int, want [][]byte, wantSize int) {
	t.Helper()
	if got, size := frame.All(b, key); !equalLists(got, want) || size != wantSize {
		t.Errorf("All of %d bytes from %v: %d records, %d, not %d records, %d, or other records", len(b), b[:min(len(b), 20)], len(got), size, len(want), wantSize)
	}
}

func TestP33AllOfWhatPutWrote(t *testing.T) {
	for _, key := range keys {
		var b []byte
		var want [][]byte
		checkAll(t, b, key, want, 0)
		for _, p := range records() {
			b = frame.Put(b, key, p)
			want = append(want, p)
			checkAll(t, b, key, want, len(b))
		}
	}
}

func TestP33AllOfNothing(t *testing.T) {
	for _, b := range [][]byte{nil, {}} {
		if l, size := frame.All(b, 5); len(l) != 0 || size != 0 {
			t.Errorf("All of no bytes is %v, %d", l, size)
		}
	}
}

func TestP33AllKeepsEmptyRecords(t *testing.T) {
	b := slices.Concat(framed(5, nil), framed(5, []byte{7}), framed(5, nil), framed(5, nil))
	checkAll(t, b, 5, [][]byte{{}, {7}, {}, {}}, len(b))
}

// Good frames on both sides of an error: only those before it count.
func TestP33AllStopsAtTheFirstError(t *testing.T) {
	good := slices.Concat(framed(5, []byte("one")), framed(5, nil), framed(5, []byte("three")))
	want := [][]byte{[]byte("one"), {}, []byte("three")}
	for _, bad := range [][]byte{
		framed(6, []byte("abc")),
		framed(6, nil),
		{128, 0},
		bytes.Repeat([]byte{255}, 10),
		wire.Int(nil, -1),
		wire.Int(nil, math.MinInt),
		wire.Int(nil, api.MaxBytes+1),
		wire.Int(nil, api.MaxBytes),
		wire.Int(nil, math.MaxInt),
		{2},
	} {
		checkAll(t, bad, 5, nil, 0)
		checkAll(t, append(slices.Clone(bad), good...), 5, nil, 0)
		checkAll(t, slices.Concat(good, bad), 5, want, len(good))
		checkAll(t, slices.Concat(good, bad, good), 5, want, len(good))
	}
	checkAll(t, good, 6, nil, 0)
}

// Three pieces in every arrangement, some of them no frames: All returns what repeated Takes return.
func TestP33AllIsTakeAgainAndAgain(t *testing.T) {
	pieces := [][]byte{framed(5, nil), framed(5, []byte{0}), framed(5, []byte("abc")), framed(6, []byte("abc")), {0}, {1}, {128}, {2, 40, 29, 133}, nil}
	for _, x := range pieces {
		for _, y := range pieces {
			for _, z := range pieces {
				b := slices.Concat(x, y, z)
				var want [][]byte
				size := 0
				for size < len(b) {
					p, n, e := frame.Take(b[size:], 5)
					if e != api.OK {
						break
					}
					want, size = append(want, p), size+n
				}
				checkAll(t, b, 5, want, size)
			}
		}
	}
}

func TestConsequenceAPartOfAFrameFollows(t *testing.T) {
	before := slices.Concat(framed(5, []byte("one")), framed(5, nil))
	want := [][]byte{[]byte("one"), {}}
	for _, p := range [][]byte{nil, {0}, []byte("abc"), framed(5, []byte("inner")), filled(64), filled(8192)} {
		whole := framed(5, p)
		for n := range len(whole) {
			checkAll(t, slices.Concat(before, whole[:n]), 5, want, len(before))
		}
		checkAll(t, slices.Concat(before, whole), 5, append(slices.Clone(want), p), len(before)+len(whole))
	}
}

func TestConsequenceEachByteBehindTheLengthMatters(t *testing.T) {
	for _, p := range [][]byte{nil, {0}, []byte("abc"), {0, 0, 255, 128}, filled(64)} {
		good := framed(-3, p)
		for at := len(good) - len(p) - sumSize; at < len(good); at++ {
			for change := 1; change < 256; change++ {
				b := slices.Clone(good)
				b[at] ^= byte(change)
				checkTakeFails(t, b, -3, api.ErrCorrupt)
				checkAll(t, b, -3, nil, 0)
			}
		}
	}
}

func TestR2PutLeavesItsArgumentsAlone(t *testing.T) {
	whole := bytes.Repeat([]byte{201}, 100)
	p := []byte{1, 2, 3, 4, 5}
	got := frame.Put(whole[:3], 5, p[:3])
	if !bytes.Equal(whole, bytes.Repeat([]byte{201}, 100)) || !bytes.Equal(p, []byte{1, 2, 3, 4, 5}) {
		t.Error("Put writes to an argument or to the capacity behind it")
	}
	clear(whole)
	clear(p)
	if !bytes.Equal(got, append([]byte{201, 201, 201}, framed(5, []byte{1, 2, 3})...)) {
		t.Error("the result of Put shares memory with an argument")
	}
	clear(got[:cap(got)])
	again := frame.Put(got[:0], 5, nil)
	clear(got[:cap(got)])
	if !bytes.Equal(again, framed(5, nil)) {
		t.Error("Put writes to the capacity of an argument without bytes")
	}
}

// The bytes of the record lie where a Put that appended in place would write.
func TestR2PutOfBytesBehindItsArgument(t *testing.T) {
	whole := filled(40)
	want := append(slices.Clone(whole[:3]), framed(5, whole[3:20])...)
	if got := frame.Put(whole[:3], 5, whole[3:20]); !bytes.Equal(got, want) {
		t.Errorf("Put of bytes behind its argument is %v, not %v", got, want)
	}
	if !bytes.Equal(whole, filled(40)) {
		t.Error("Put changes the bytes behind its argument")
	}
}

func TestR2PutOfTooManyBytesReturnsNewMemory(t *testing.T) {
	b := []byte{1, 2, 3}
	p := make([]byte, api.MaxBytes+1)
	first, second := frame.Put(b, 5, p), frame.Put(b, 5, p)
	clear(b)
	clear(second)
	if !bytes.Equal(first, []byte{1, 2, 3}) {
		t.Errorf("the result of Put of too many bytes shares memory: %v", first)
	}
}

func TestR2TakeAndAllLeaveTheirArgumentAlone(t *testing.T) {
	good := slices.Concat(framed(5, []byte("abc")), framed(5, nil), framed(5, []byte{7}))
	for _, b := range [][]byte{good, good[:5], framed(6, []byte("abc")), {1}, {130, 128, 8}, nil} {
		whole := append(slices.Clone(b), bytes.Repeat([]byte{202}, 50)...)
		want := slices.Clone(whole)
		frame.Take(whole[:len(b)], 5)
		frame.All(whole[:len(b)], 5)
		if !bytes.Equal(whole, want) {
			t.Errorf("Take or All changes %v or the capacity behind it", b)
		}
	}
}

// The spare capacity holds just the bytes that are missing; a function that read them would find no error.
func TestR2SpareCapacityIsNotRead(t *testing.T) {
	whole := slices.Concat(framed(5, []byte("abc")), framed(5, []byte("def")))
	half := len(whole) / 2
	for n := range half {
		checkTakeFails(t, whole[:n], 5, api.ErrShort)
		checkAll(t, whole[:n], 5, nil, 0)
		checkAll(t, whole[:half+n], 5, [][]byte{[]byte("abc")}, half)
	}
}

func TestR2TakeReturnsNewMemory(t *testing.T) {
	b := framed(5, []byte("abc"))
	first, _, _ := frame.Take(b, 5)
	second, _, _ := frame.Take(b, 5)
	clear(first[:cap(first)])
	if !bytes.Equal(b, framed(5, []byte("abc"))) {
		t.Error("the result of Take shares memory with its argument")
	}
	clear(b)
	if !bytes.Equal(second, []byte("abc")) {
		t.Errorf("the result of Take shares memory: %v", second)
	}
}

func TestR2AllReturnsNewMemory(t *testing.T) {
	b := slices.Concat(framed(5, []byte("abc")), framed(5, nil), framed(5, []byte("def")), framed(5, []byte("ghi")))
	clean := slices.Clone(b)
	want := [][]byte{[]byte("abc"), {}, []byte("def"), []byte("ghi")}
	for at := range want {
		l, _ := frame.All(b, 5)
		changed := l[at][:cap(l[at])]
		for i := range changed {
			changed[i] = 77
		}
		for i := range want {
			if i != at && !bytes.Equal(l[i], want[i]) {
				t.Errorf("the records %d and %d share memory", at, i)
			}
		}
	}
	if !bytes.Equal(b, clean) {
		t.Error("a record shares memory with the argument of All")
	}
	l, _ := frame.All(b, 5)
	clear(b)
	if !equalLists(l, want) {
		t.Error("the records share memory with the argument of All")
	}
}

// The same memory holds other bytes in between, and another key is asked.
func TestR3NothingIsRemembered(t *testing.T) {
	b := framed(5, []byte("abc"))
	frame.Take(b, 5)
	frame.All(b, 5)
	checkTakeFails(t, b, 6, api.ErrCorrupt)
	checkAll(t, b, 6, nil, 0)
	copy(b, framed(6, []byte("xyz")))
	checkTakeFails(t, b, 5, api.ErrCorrupt)
	checkAll(t, b, 5, nil, 0)
	checkAll(t, b, 6, [][]byte{[]byte("xyz")}, len(b))
	p := []byte("abc")
	frame.Put(nil, 5, p)
	copy(p, "xyz")
	if !bytes.Equal(frame.Put(nil, 5, p), framed(5, []byte("xyz"))) {
		t.Error("Put remembers the bytes of an earlier call")
	}
}
