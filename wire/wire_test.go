package wire_test

import (
	"bytes"
	"math"
	"math/big"
	"slices"
	"strings"
	"testing"

	"cellplane/api"
	"cellplane/wire"
)

// repeat returns n times the byte x, followed by tail.
func repeat(x byte, n int, tail ...byte) []byte {
	return append(bytes.Repeat([]byte{x}, n), tail...)
}

// codes are integers with the bytes of their codes, written out by hand: the edges of the lengths of codes among them.
var codes = []struct {
	n     int
	bytes []byte
}{
	{0, []byte{0}},
	{-1, []byte{1}},
	{1, []byte{2}},
	{-2, []byte{3}},
	{63, []byte{126}},
	{-64, []byte{127}},
	{64, []byte{128, 1}},
	{-65, []byte{129, 1}},
	{150, []byte{172, 2}},
	{8191, []byte{254, 127}},
	{-8192, []byte{255, 127}},
	{8192, []byte{128, 128, 1}},
	{-8193, []byte{129, 128, 1}},
	{api.MaxBytes, []byte{128, 128, 8}},
	{api.MaxBytes + 1, []byte{130, 128, 8}},
	{1<<62 - 1, append([]byte{254}, repeat(255, 7, 127)...)},
	{-(1 << 62), append([]byte{255}, repeat(255, 7, 127)...)},
	{1 << 62, repeat(128, 9, 1)},
	{-(1 << 62) - 1, append([]byte{129}, repeat(128, 8, 1)...)},
	{math.MaxInt, append([]byte{254}, repeat(255, 8, 1)...)},
	{math.MinInt, append([]byte{255}, repeat(255, 8, 1)...)},
}

// integers returns integers of all magnitudes and both signs.
func integers() []int {
	var l []int
	for shift := range 64 {
		for near := -2; near <= 2; near++ {
			n := int(uint64(1)<<shift) + near
			l = append(l, n, -n)
		}
	}
	for n := -20000; n <= 20000; n += 7 {
		l = append(l, n)
	}
	return append(l, math.MinInt, math.MaxInt)
}

// defined returns the bytes of the code of n by the chapter's definition, with integers that cannot overflow.
func defined(n int) []byte {
	code := new(big.Int).Mul(big.NewInt(2), big.NewInt(int64(n)))
	if n < 0 {
		code.Neg(code).Sub(code, big.NewInt(1))
	}
	var out []byte
	for {
		rest, group := new(big.Int).DivMod(code, big.NewInt(128), new(big.Int))
		if rest.Sign() == 0 {
			return append(out, byte(group.Int64()))
		}
		out = append(out, byte(group.Int64()+128))
		code = rest
	}
}

func TestP11IntWritesTheCode(t *testing.T) {
	for _, c := range codes {
		if got := wire.Int(nil, c.n); !bytes.Equal(got, c.bytes) {
			t.Errorf("Int(%d) is %v, not %v", c.n, got, c.bytes)
		}
	}
	for _, n := range integers() {
		if got, want := wire.Int(nil, n), defined(n); !bytes.Equal(got, want) {
			t.Errorf("Int(%d) is %v, not %v", n, got, want)
		}
	}
}

func TestP11TextWritesLengthAndBytes(t *testing.T) {
	for _, s := range []string{"", "a", "ab", "\x00\xff\x80", "grün", strings.Repeat("x", 63), strings.Repeat("x", 64), strings.Repeat("y", api.MaxBytes), strings.Repeat("z", api.MaxBytes+1)} {
		want := append(defined(len(s)), s...)
		if got := wire.Text(nil, s); !bytes.Equal(got, want) {
			t.Errorf("Text of %d bytes: %d bytes, not %d, or other ones", len(s), len(got), len(want))
		}
	}
	if got := wire.Text(nil, ""); !bytes.Equal(got, []byte{0}) {
		t.Errorf("Text of nothing is %v", got)
	}
}

func TestP11IntsWritesLengthAndElements(t *testing.T) {
	for _, l := range [][]int{nil, {}, {0}, {-1}, {1, -1, 64}, {math.MinInt, math.MaxInt}, make([]int, 63), make([]int, 64), make([]int, api.MaxBytes+1), integers()} {
		want := defined(len(l))
		for _, n := range l {
			want = append(want, defined(n)...)
		}
		if got := wire.Ints(nil, l); !bytes.Equal(got, want) {
			t.Errorf("Ints of %d elements: %d bytes, not %d, or other ones", len(l), len(got), len(want))
		}
	}
	if got := wire.Ints(nil, []int{1, -1, 64}); !bytes.Equal(got, []byte{6, 2, 1, 128, 1}) {
		t.Errorf("Ints(1, -1, 64) is %v", got)
	}
}

// The three functions that write, each with one value, for what holds for all of them.
var writers = []struct {
	name  string
	write func(b []byte) []byte
	bytes []byte
}{
	{"Int", func(b []byte) []byte { return wire.Int(b, 64) }, []byte{128, 1}},
	{"Text", func(b []byte) []byte { return wire.Text(b, "ab") }, []byte{4, 97, 98}},
	{"Ints", func(b []byte) []byte { return wire.Ints(b, []int{1, -1, 64}) }, []byte{6, 2, 1, 128, 1}},
}

func TestP11WritersBeginWithTheirArgument(t *testing.T) {
	for _, w := range writers {
		for _, before := range [][]byte{nil, {}, {0}, {128, 128, 255}, repeat(7, 1000)} {
			want := append(slices.Clone(before), w.bytes...)
			if got := w.write(before); !bytes.Equal(got, want) {
				t.Errorf("%s behind %d bytes is %v", w.name, len(before), got)
			}
		}
	}
}

func TestR2WritersLeaveTheirArgumentAlone(t *testing.T) {
	for _, w := range writers {
		whole := repeat(201, 100)
		got := w.write(whole[:3])
		if !bytes.Equal(whole, repeat(201, 100)) {
			t.Errorf("%s writes to its argument or to the capacity behind it", w.name)
		}
		for i := range whole {
			whole[i] = 11
		}
		if !bytes.Equal(got, append(repeat(201, 3), w.bytes...)) {
			t.Errorf("the result of %s shares memory with its argument", w.name)
		}
		for i := range got {
			got[i] = 33
		}
		if !bytes.Equal(whole, repeat(11, 100)) {
			t.Errorf("the argument of %s shares memory with its result", w.name)
		}
	}
}

func TestR2WritersReturnNewMemoryEachTime(t *testing.T) {
	for _, w := range writers {
		b := append(make([]byte, 0, 100), 5)
		first := w.write(b)
		second := w.write(b)
		for i := range second {
			second[i] = 44
		}
		if !bytes.Equal(first, append([]byte{5}, w.bytes...)) {
			t.Errorf("two results of %s share memory", w.name)
		}
	}
}

func TestR2IntsLeavesTheListAlone(t *testing.T) {
	whole := []int{1, -1, 64, 77, 78}
	wire.Ints(nil, whole[:3])
	if !slices.Equal(whole, []int{1, -1, 64, 77, 78}) {
		t.Errorf("Ints changes its list: %v", whole)
	}
}

// takeIntBySpec follows the words of P1.2, one after the other.
func takeIntBySpec(b []byte) (int, int, api.Errno) {
	isGreat := func(x byte) bool { return x >= 128 }
	isSmall := func(x byte) bool { return x < 128 }
	if len(b) < 10 && !slices.ContainsFunc(b, isSmall) {
		return 0, 0, api.ErrShort
	}
	k := slices.IndexFunc(b, isSmall)
	if k < 0 || k >= 10 || k > 0 && b[k] == 0 || k == 9 && b[k] > 1 {
		return 0, 0, api.ErrCorrupt
	}
	code := new(big.Int)
	for i := k; i >= 0; i-- {
		group := int64(b[i])
		if isGreat(b[i]) {
			group -= 128
		}
		code.Add(code.Mul(code, big.NewInt(128)), big.NewInt(group))
	}
	if code.Bit(0) == 0 {
		return int(code.Rsh(code, 1).Int64()), k + 1, api.OK
	}
	code.Add(code, big.NewInt(1)).Rsh(code, 1).Neg(code)
	return int(code.Int64()), k + 1, api.OK
}

// checkTakeInt compares TakeInt with the words of P1.2, and what it accepts with what Int writes.
func checkTakeInt(t *testing.T, b []byte) {
	t.Helper()
	n, used, e := wire.TakeInt(b)
	wantN, wantUsed, wantE := takeIntBySpec(b)
	if n != wantN || used != wantUsed || e != wantE {
		t.Errorf("TakeInt(%v) is %d, %d, %d, not %d, %d, %d", b, n, used, e, wantN, wantUsed, wantE)
	}
	if e == api.OK && !bytes.Equal(wire.Int(nil, n), b[:used]) {
		t.Errorf("TakeInt(%v) accepts what Int does not write for %d", b, n)
	}
}

func TestP12TakeIntReturnsWhatIntWrote(t *testing.T) {
	for _, c := range codes {
		for _, after := range [][]byte{nil, {0}, {1}, {128}, {255, 255}, repeat(128, 20)} {
			b := append(slices.Clone(c.bytes), after...)
			if n, used, e := wire.TakeInt(b); n != c.n || used != len(c.bytes) || e != api.OK {
				t.Errorf("TakeInt(%v) is %d, %d, %d", b, n, used, e)
			}
		}
	}
	for _, n := range integers() {
		b := defined(n)
		if got, used, e := wire.TakeInt(append(b, 99)); got != n || used != len(b) || e != api.OK {
			t.Errorf("TakeInt of the code of %d is %d, %d, %d", n, got, used, e)
		}
	}
}

func TestP12TakeIntErrors(t *testing.T) {
	for _, c := range []struct {
		b    []byte
		want api.Errno
	}{
		{nil, api.ErrShort},
		{[]byte{}, api.ErrShort},
		{[]byte{128}, api.ErrShort},
		{[]byte{255, 128}, api.ErrShort},
		{repeat(128, 9), api.ErrShort},
		{repeat(255, 9), api.ErrShort},
		{repeat(128, 10), api.ErrCorrupt},
		{repeat(255, 10), api.ErrCorrupt},
		{repeat(128, 10, 1), api.ErrCorrupt},
		{repeat(128, 10, 0), api.ErrCorrupt},
		{repeat(128, 11), api.ErrCorrupt},
		{[]byte{128, 0}, api.ErrCorrupt},
		{[]byte{255, 0}, api.ErrCorrupt},
		{[]byte{128, 128, 0}, api.ErrCorrupt},
		{[]byte{129, 0, 1}, api.ErrCorrupt},
		{repeat(255, 8, 0), api.ErrCorrupt},
		{repeat(128, 9, 0), api.ErrCorrupt},
		{repeat(128, 9, 2), api.ErrCorrupt},
		{repeat(255, 9, 3), api.ErrCorrupt},
		{repeat(255, 9, 127), api.ErrCorrupt},
	} {
		if n, used, e := wire.TakeInt(c.b); n != 0 || used != 0 || e != c.want {
			t.Errorf("TakeInt(%v) is %d, %d, %d, not 0, 0, %d", c.b, n, used, e, c.want)
		}
	}
}

func TestP12TakeIntOfAllShortBytes(t *testing.T) {
	checkTakeInt(t, nil)
	for x := range 256 {
		checkTakeInt(t, []byte{byte(x)})
		for y := range 256 {
			checkTakeInt(t, []byte{byte(x), byte(y)})
		}
	}
}

func TestP12TakeIntAtEveryLength(t *testing.T) {
	for _, fill := range []byte{128, 129, 170, 255} {
		for k := range 13 {
			checkTakeInt(t, repeat(fill, k))
			for last := range 256 {
				checkTakeInt(t, repeat(fill, k, byte(last)))
				checkTakeInt(t, repeat(fill, k, byte(last), 0))
			}
		}
	}
}

func TestP13TakeTextReturnsWhatTextWrote(t *testing.T) {
	for _, s := range []string{"", "a", "\x00", "\xff\x80\x00", "grün", strings.Repeat("x", 63), strings.Repeat("x", 64), strings.Repeat("y", api.MaxBytes-1), strings.Repeat("z", api.MaxBytes)} {
		written := wire.Text(nil, s)
		for _, after := range [][]byte{nil, {0}, {128}, repeat(255, 20)} {
			b := append(slices.Clone(written), after...)
			if got, used, e := wire.TakeText(b); got != s || used != len(written) || e != api.OK {
				t.Errorf("TakeText of %d bytes, with %v behind them: %d bytes, %d, %d", len(s), after, len(got), used, e)
			}
		}
	}
}

func TestP13TakeIntsReturnsWhatIntsWrote(t *testing.T) {
	for _, l := range [][]int{nil, {0}, {-1}, {1, -1, 64}, {math.MinInt, 0, math.MaxInt}, make([]int, 64), integers(), make([]int, api.MaxBytes-1), make([]int, api.MaxBytes), slices.Repeat([]int{math.MinInt}, api.MaxBytes)} {
		written := wire.Ints(nil, l)
		for _, after := range [][]byte{nil, {0}, {128}, repeat(255, 20)} {
			b := append(slices.Clone(written), after...)
			if got, used, e := wire.TakeInts(b); !slices.Equal(got, l) || used != len(written) || e != api.OK {
				t.Errorf("TakeInts of %d elements, with %v behind them: %d elements, %d, %d", len(l), after, len(got), used, e)
			}
		}
	}
}

// joined returns the bytes of the code of n, followed by rest.
func joined(n int, rest ...byte) []byte { return append(defined(n), rest...) }

func TestP13TakeTextErrors(t *testing.T) {
	for _, c := range []struct {
		b    []byte
		want api.Errno
	}{
		{nil, api.ErrShort},
		{[]byte{128}, api.ErrShort},
		{repeat(128, 9), api.ErrShort},
		{repeat(128, 10), api.ErrCorrupt},
		{repeat(128, 9, 2), api.ErrCorrupt},
		{[]byte{128, 0}, api.ErrCorrupt},
		{[]byte{132, 0, 97, 98}, api.ErrCorrupt},
		{joined(-1), api.ErrCorrupt},
		{joined(-1, 97, 98), api.ErrCorrupt},
		{joined(-api.MaxBytes-1, 97), api.ErrCorrupt},
		{joined(math.MinInt), api.ErrCorrupt},
		{joined(api.MaxBytes + 1), api.ErrLimit},
		{joined(api.MaxBytes+1, make([]byte, api.MaxBytes+1)...), api.ErrLimit},
		{joined(math.MaxInt), api.ErrLimit},
		{joined(api.MaxBytes), api.ErrShort},
		{joined(api.MaxBytes, make([]byte, api.MaxBytes-1)...), api.ErrShort},
		{joined(1), api.ErrShort},
		{joined(2, 97), api.ErrShort},
		{joined(64, repeat(0, 63)...), api.ErrShort},
	} {
		if s, used, e := wire.TakeText(c.b); s != "" || used != 0 || e != c.want {
			t.Errorf("TakeText of %d bytes from %v is %q, %d, %d, not %d", len(c.b), c.b[:min(len(c.b), 10)], s, used, e, c.want)
		}
	}
}

func TestP13TakeIntsErrors(t *testing.T) {
	for _, c := range []struct {
		b    []byte
		want api.Errno
	}{
		{nil, api.ErrShort},
		{[]byte{128}, api.ErrShort},
		{repeat(128, 9), api.ErrShort},
		{repeat(128, 10), api.ErrCorrupt},
		{repeat(128, 9, 2), api.ErrCorrupt},
		{[]byte{132, 0, 2, 2}, api.ErrCorrupt},
		{joined(-1), api.ErrCorrupt},
		{joined(-1, 128), api.ErrCorrupt},
		{joined(math.MinInt), api.ErrCorrupt},
		{joined(api.MaxBytes + 1), api.ErrLimit},
		{joined(api.MaxBytes+1, 128, 0), api.ErrLimit},
		{joined(api.MaxBytes+1, make([]byte, api.MaxBytes+1)...), api.ErrLimit},
		{joined(math.MaxInt), api.ErrLimit},
		{joined(api.MaxBytes), api.ErrShort},
		{joined(api.MaxBytes, make([]byte, api.MaxBytes-1)...), api.ErrShort},
		{joined(1), api.ErrShort},
		{joined(2, 2), api.ErrShort},
		{joined(2, 128, 1), api.ErrShort},
		{joined(2, 2, 128), api.ErrShort},
		{joined(3, 128, 0), api.ErrCorrupt},
		{joined(3, 2, 128, 0), api.ErrCorrupt},
		{joined(3, repeat(128, 9, 2)...), api.ErrCorrupt},
		{joined(3, repeat(128, 10)...), api.ErrCorrupt},
		{joined(3, 2, 4, 128, 0, 128), api.ErrCorrupt},
	} {
		if l, used, e := wire.TakeInts(c.b); len(l) != 0 || used != 0 || e != c.want {
			t.Errorf("TakeInts of %d bytes from %v is %v, %d, %d, not %d", len(c.b), c.b[:min(len(c.b), 10)], l, used, e, c.want)
		}
	}
}

func TestP13ElementsBehindTheLengthDoNotCount(t *testing.T) {
	if l, used, e := wire.TakeInts(joined(1, 2, 128, 0)); !slices.Equal(l, []int{1}) || used != 2 || e != api.OK {
		t.Errorf("TakeInts with corrupt bytes behind the list is %v, %d, %d", l, used, e)
	}
}

func TestP13TakesAcceptOnlyWhatIsWritten(t *testing.T) {
	alphabet := []byte{0, 1, 2, 4, 6, 127, 128, 129, 255}
	var extend func(b []byte, left int)
	extend = func(b []byte, left int) {
		if s, used, e := wire.TakeText(b); e == api.OK && !bytes.Equal(wire.Text(nil, s), b[:used]) {
			t.Errorf("TakeText(%v) accepts what Text does not write for %q", b, s)
		}
		if l, used, e := wire.TakeInts(b); e == api.OK && !bytes.Equal(wire.Ints(nil, l), b[:used]) {
			t.Errorf("TakeInts(%v) accepts what Ints does not write for %v", b, l)
		}
		for _, x := range alphabet {
			if left > 0 {
				extend(append(slices.Clone(b), x), left-1)
			}
		}
	}
	extend(nil, 4)
}

func TestR2TakesLeaveTheirArgumentAlone(t *testing.T) {
	takes := []func(b []byte) api.Errno{
		func(b []byte) api.Errno { _, _, e := wire.TakeInt(b); return e },
		func(b []byte) api.Errno { _, _, e := wire.TakeText(b); return e },
		func(b []byte) api.Errno { _, _, e := wire.TakeInts(b); return e },
	}
	for _, before := range [][]byte{{6, 2, 1, 128, 1}, {1}, {4, 128, 0}, {10, 2, 2}, repeat(128, 10), {130, 128, 8}} {
		whole := append(slices.Clone(before), repeat(202, 50)...)
		want := slices.Clone(whole)
		for i, take := range takes {
			take(whole[:len(before)])
			if !bytes.Equal(whole, want) {
				t.Errorf("take %d changes %v or the capacity behind it", i, before)
			}
		}
	}
}

// The spare capacity holds just the bytes that are missing; a function that read them would find no error.
func TestR2TakesDoNotReadSpareCapacity(t *testing.T) {
	if n, _, e := wire.TakeInt([]byte{128, 1}[:1]); n != 0 || e != api.ErrShort {
		t.Errorf("TakeInt reads spare capacity: %d, %d", n, e)
	}
	if s, _, e := wire.TakeText([]byte{4, 97, 98}[:2]); s != "" || e != api.ErrShort {
		t.Errorf("TakeText reads spare capacity: %q, %d", s, e)
	}
	if l, _, e := wire.TakeInts([]byte{4, 2, 2}[:2]); len(l) != 0 || e != api.ErrShort {
		t.Errorf("TakeInts reads spare capacity: %v, %d", l, e)
	}
}

func TestR2TakesShareNoMemoryWithTheirArgument(t *testing.T) {
	b := []byte{4, 97, 98}
	s, _, _ := wire.TakeText(b)
	l, _, _ := wire.TakeInts(b)
	same, _, _ := wire.TakeInts(b)
	clear(b)
	same[0] = 12
	if s != "ab" {
		t.Errorf("the text shares memory with the bytes: %q", s)
	}
	if !slices.Equal(l, []int{-49, 49}) {
		t.Errorf("two lists share memory, or with the bytes: %v", l)
	}
}
