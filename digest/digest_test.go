package digest_test

import (
	"bytes"
	"math"
	"math/big"
	"slices"
	"testing"

	"cellplane/digest"
)

// basis is the number with which all sums begin.
const basis uint64 = 14695981039346656037

// mixed returns what P2.1 says, with integers that cannot overflow and a remainder of its own.
func mixed(h uint64, n int) uint64 {
	modulus := new(big.Int).Lsh(big.NewInt(1), 64)
	operand := new(big.Int).Mod(big.NewInt(int64(n)), modulus)
	y := new(big.Int).Xor(new(big.Int).SetUint64(h), operand)
	y.Mul(y, big.NewInt(1099511628211)).Mod(y, modulus)
	return y.Xor(y, new(big.Int).Rsh(y, 29)).Uint64()
}

// summed returns what P2.2 says of the bytes and of their length, after the beginning h.
func summed(h uint64, b []byte) uint64 {
	for i := range b {
		h = mixed(h, int(b[i]))
	}
	return mixed(h, len(b))
}

// states returns numbers of 64 bits of all magnitudes.
func states() []uint64 {
	l := []uint64{0, basis, 12345678901234567890, math.MaxUint64, 0x5555555555555555, 0xaaaaaaaaaaaaaaaa}
	for bit := range 64 {
		l = append(l, 1<<bit, 1<<bit-1, ^(uint64(1) << bit))
	}
	return distinct(l)
}

// operands returns integers of all magnitudes and both signs.
func operands() []int {
	l := []int{0, math.MaxInt, math.MinInt, 5, -5, 987654321, -987654321}
	for bit := range 63 {
		l = append(l, 1<<bit, -(1 << bit), 1<<bit-1, -(1<<bit)-1)
	}
	return distinct(l)
}

// distinct returns the elements of l, each of them once.
func distinct[T int | uint64](l []T) []T {
	slices.Sort(l)
	return slices.Compact(l)
}

// texts returns byte strings of several lengths: none, zeros, all bytes, and many of them.
func texts() [][]byte {
	all := make([]byte, 256)
	for i := range all {
		all[i] = byte(i)
	}
	reversed := slices.Clone(all)
	slices.Reverse(reversed)
	return [][]byte{nil, {}, {0}, {0, 0}, {1}, {127}, {128}, {255}, {255, 1, 7}, {7, 1, 255}, []byte("abc"), []byte("cba"), all, reversed, bytes.Repeat([]byte{0}, 300), bytes.Repeat([]byte{200, 3}, 1<<10)}
}

// The results are computed by another program.
func TestP21MixOfGivenNumbers(t *testing.T) {
	for _, c := range []struct {
		h    uint64
		n    int
		want uint64
	}{
		{0, 0, 0},
		{1, 1, 0},
		{5, 5, 0},
		{0, 1, 1099511630259},
		{1, 0, 1099511630259},
		{0, -1, 18446742939838187954},
		{math.MaxUint64, -1, 0},
		{math.MaxUint64, 0, 18446742939838187954},
		{1 << 63, 0, 9223372054034644992},
		{0, math.MinInt, 9223372054034644992},
		{1 << 63, math.MinInt, 0},
		{1 << 63, math.MaxInt, 18446742939838187954},
		{basis, 0, 12638153104808500667},
		{basis, 1, 12638152005296870472},
		{basis, -1, 5808589852112604149},
		{12345678901234567890, 987654321, 16302605481437414522},
	} {
		if got := digest.Mix(c.h, c.n); got != c.want {
			t.Errorf("Mix(%d, %d) is %d, not %d", c.h, c.n, got, c.want)
		}
	}
}

func TestP21MixFollowsItsDefinition(t *testing.T) {
	for _, h := range states() {
		for _, n := range operands() {
			if got, want := digest.Mix(h, n), mixed(h, n); got != want {
				t.Fatalf("Mix(%d, %d) is %d, not %d", h, n, got, want)
			}
		}
	}
}

func TestP22SumOfGivenBytes(t *testing.T) {
	for _, c := range []struct {
		key  int
		b    []byte
		want uint64
	}{
		{0, nil, 2510862036170291465},
		{0, []byte{}, 2510862036170291465},
		{1, nil, 2507724029973691280},
		{-1, nil, 1571640210161771207},
		{0, []byte{0}, 2838303137819788738},
		{0, []byte{0, 0}, 10268451945925720181},
		{7, []byte("abc"), 17188697224332459061},
		{7, []byte("cba"), 1653607072604457079},
		{math.MinInt, []byte{255, 128, 0, 1}, 6378050210688835055},
		{math.MaxInt, []byte{255, 128, 0, 1}, 13847575049069045233},
	} {
		if got := digest.Sum(c.key, c.b); got != c.want {
			t.Errorf("Sum(%d, %v) is %d, not %d", c.key, c.b, got, c.want)
		}
	}
}

func TestP22ChainOfGivenBytes(t *testing.T) {
	for _, c := range []struct {
		key    int
		parent uint64
		b      []byte
		want   uint64
	}{
		{0, 0, nil, 2838304237331422993},
		{0, 0, []byte{}, 2838304237331422993},
		{1, 0, nil, 7905123193794095329},
		{0, 1, nil, 2837189332551620392},
		{1, 2, []byte{97}, 10154514111271301464},
		{2, 1, []byte{97}, 6047618757794280877},
		{7, 1 << 63, []byte("abc"), 817276660276147967},
		{7, math.MaxUint64, []byte("abc"), 13958190131877775817},
		{-1, 12345678901234567890, []byte{0, 0, 255}, 7540851240339509640},
	} {
		if got := digest.Chain(c.key, c.parent, c.b); got != c.want {
			t.Errorf("Chain(%d, %d, %v) is %d, not %d", c.key, c.parent, c.b, got, c.want)
		}
	}
}

func TestP22SumsFollowTheirDefinition(t *testing.T) {
	keys := []int{0, 1, -1, 7, -5, 1 << 40, math.MaxInt, math.MinInt}
	parents := []uint64{0, 1, 9, 1 << 63, 1<<63 - 1, basis, math.MaxUint64}
	for _, b := range texts() {
		for _, key := range keys {
			begin := mixed(basis, key)
			if got, want := digest.Sum(key, b), summed(begin, b); got != want {
				t.Errorf("Sum(%d) of %d bytes is %d, not %d", key, len(b), got, want)
			}
			for _, parent := range parents {
				if got, want := digest.Chain(key, parent, b), summed(mixed(begin, int(parent)), b); got != want {
					t.Errorf("Chain(%d, %d) of %d bytes is %d, not %d", key, parent, len(b), got, want)
				}
			}
		}
	}
}

// allDiffer reports two results that are equal.
func allDiffer(t *testing.T, what string, sums []uint64) {
	t.Helper()
	if len(distinct(slices.Clone(sums))) != len(sums) {
		t.Errorf("%s: two of %d results are equal", what, len(sums))
	}
}

func TestConsequenceMixDiffersWithEitherArgument(t *testing.T) {
	for _, n := range operands() {
		var sums []uint64
		for _, h := range states() {
			sums = append(sums, digest.Mix(h, n))
		}
		allDiffer(t, "Mix of different states", sums)
	}
	for _, h := range states() {
		var sums []uint64
		for _, n := range operands() {
			sums = append(sums, digest.Mix(h, n))
		}
		allDiffer(t, "Mix of different integers", sums)
	}
}

func TestConsequenceEachByteMatters(t *testing.T) {
	original := []byte{0, 255, 128, 0, 97, 0, 0, 1}
	for at := range original {
		var sums, chains []uint64
		for x := range 256 {
			b := slices.Clone(original)
			b[at] = byte(x)
			sums = append(sums, digest.Sum(-3, b))
			chains = append(chains, digest.Chain(-3, 4, b))
		}
		allDiffer(t, "Sum of strings that differ in one byte", sums)
		allDiffer(t, "Chain of strings that differ in one byte", chains)
	}
}

func TestConsequenceKeyAndParentMatter(t *testing.T) {
	for _, b := range texts() {
		var sums, keyed, chained []uint64
		for _, key := range operands() {
			sums = append(sums, digest.Sum(key, b))
			keyed = append(keyed, digest.Chain(key, 6, b))
		}
		for _, parent := range states() {
			chained = append(chained, digest.Chain(6, parent, b))
		}
		allDiffer(t, "Sum under different keys", sums)
		allDiffer(t, "Chain under different keys", keyed)
		allDiffer(t, "Chain after different parents", chained)
	}
}

func TestR2TheBytesAreLeftAlone(t *testing.T) {
	whole := []byte{5, 0, 255, 128, 9, 9, 9, 9}
	want := slices.Clone(whole)
	digest.Sum(1, whole[:4])
	digest.Chain(1, 2, whole[:4])
	if !bytes.Equal(whole, want) {
		t.Errorf("the bytes have become %v", whole)
	}
}

func TestR2SpareCapacityIsNotRead(t *testing.T) {
	whole := []byte{5, 0, 255, 128, 9, 9, 9, 9}
	exact := slices.Clip(slices.Clone(whole[:4]))
	if digest.Sum(1, whole[:4]) != digest.Sum(1, exact) {
		t.Error("Sum depends on the capacity behind its bytes")
	}
	if digest.Chain(1, 2, whole[:4]) != digest.Chain(1, 2, exact) {
		t.Error("Chain depends on the capacity behind its bytes")
	}
}

// The same bytes have the same sum again, whatever was summed in between; other bytes in the same memory have their own.
func TestR3NothingIsRemembered(t *testing.T) {
	b := []byte("abc")
	sum, chain := digest.Sum(7, b), digest.Chain(7, 1<<63, b)
	copy(b, "cba")
	if digest.Sum(7, b) == sum || digest.Chain(7, 1<<63, b) == chain {
		t.Error("a sum is that of bytes that were given earlier")
	}
	copy(b, "abc")
	if digest.Sum(7, b) != sum || digest.Chain(7, 1<<63, b) != chain {
		t.Error("a sum depends on earlier calls")
	}
}
