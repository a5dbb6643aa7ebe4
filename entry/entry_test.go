package entry_test

import (
	"bytes"
	"math"
	"math/rand"
	"reflect"
	"slices"
	"testing"

	"cellplane/api"
	"cellplane/entry"
	"cellplane/tenant"
	"cellplane/wire"
)

// table is the chapter's table, with its kinds in their order. The letters stand for the fields from Tenant to N:
// T a tenant, C a cell, c a cell or -1, R a region, V a version, E an epoch, K a tick, M a mode, B 0 or 1; - and 0 are fields that are not used.
var table = []struct{ name, fields string }{
	{"place", "TCc0000"},
	{"grant", "TC-EKKV"},
	{"cut", "T--E000"},
	{"standby", "Tc-0000"},
	{"ready", "TC-0000"},
	{"migrate", "TC-0000"},
	{"abandon", "T--0000"},
	{"shed", "T--000B"},
	{"mode", "-C-000M"},
	{"want", "-C-000V"},
	{"runs", "-C-000V"},
	{"prove", "---000V"},
	{"evacuate", "--R000B"},
	{"expand", "---0000"},
	{"contract", "---0000"},
	{"note", "---000K"},
}

// sizes are the numbers of things that an entry may name.
type sizes struct{ tenants, cells, regions, versions int }

// most are the greatest numbers of things.
var most = sizes{32, 16, 4, 30}

// sizesOf returns the numbers of things in a configuration.
func sizesOf(c api.Config) sizes {
	return sizes{len(c.Tenants), len(c.Cells), c.Regions, len(c.Versions)}
}

// numbers are the fields of an entry in their order.
type numbers [9]int

// The places of some fields among the numbers of an entry.
const (
	kindAt  = 0
	tickAt  = 1
	cellAt  = 3
	otherAt = 4
)

// list returns the numbers of an entry.
func list(e api.Entry) numbers {
	return numbers{e.Kind, e.Tick, e.Tenant, e.Cell, e.Other, e.Epoch, e.From, e.Until, e.N}
}

// of returns the entry of the given numbers.
func of(n numbers) api.Entry {
	return api.Entry{Kind: n[0], Tick: n[1], Tenant: n[2], Cell: n[3], Other: n[4], Epoch: n[5], From: n[6], Until: n[7], N: n[8]}
}

// limits returns the least and the greatest value of a field of a kind.
func limits(kind, at int, s sizes) (int, int) {
	switch at {
	case kindAt:
		return kind, kind
	case tickAt:
		return 0, 1073741824
	}
	switch table[kind-1].fields[at-2] {
	case 'T':
		return 0, s.tenants - 1
	case 'C':
		return 0, s.cells - 1
	case 'c':
		return -1, s.cells - 1
	case 'R':
		return 0, s.regions - 1
	case 'V':
		return 0, s.versions - 1
	case 'E':
		return 1, 1048576
	case 'K':
		return 0, 1073741824
	case 'M':
		return 1, 3
	case 'B':
		return 0, 1
	case '-':
		return -1, -1
	}
	return 0, 0
}

// right reports whether an entry is one of the chapter's table, where there are so many things.
func right(e api.Entry, s sizes) bool {
	if e.Kind < 1 || e.Kind > len(table) || e.Kind == 1 && e.Cell == e.Other {
		return false
	}
	for at, n := range list(e) {
		if low, high := limits(e.Kind, at, s); n < low || n > high {
			return false
		}
	}
	return true
}

// least returns the entry of a kind whose fields have their least values.
func least(kind int) numbers {
	var l numbers
	for at := range l {
		l[at], _ = limits(kind, at, most)
	}
	return l
}

// greatest returns the entry of a kind whose fields have their greatest values where there are so many things, but that the standby of a tenant is not at its home.
func greatest(kind int, s sizes) numbers {
	var l numbers
	for at := range l {
		_, l[at] = limits(kind, at, s)
	}
	if kind == api.EntryPlace {
		l[otherAt]--
	}
	return l
}

// shaped returns entries of the right shape: those of least and of greatest values, and generated ones.
func shaped() []api.Entry {
	r := rand.New(rand.NewSource(6))
	var out []api.Entry
	for kind := 1; kind <= len(table); kind++ {
		out = append(out, of(least(kind)), of(greatest(kind, most)))
		for range 100 {
			out = append(out, random(r, kind))
		}
	}
	return out
}

// random returns an entry of a kind with the right shape.
func random(r *rand.Rand, kind int) api.Entry {
	var l numbers
	for at := range l {
		low, high := limits(kind, at, most)
		l[at] = low + r.Intn(high-low+1)
	}
	if kind == api.EntryPlace && l[cellAt] == l[otherAt] {
		l[otherAt] = -1
	}
	return of(l)
}

// wide are integers that no field of any kind may have. (Some of them are right in their lowest 8, 16 or 32 bits.)
var wide = []int{math.MinInt, math.MinInt + 1, -1 << 32, 1 - 1<<32, -1<<32 + 3, -257, -256, -255, -65, -64, -3, -2, 1<<30 + 1, 1 << 31, 1<<32 - 1, 1 << 32, 1<<32 + 1, 1<<32 + 2, 1<<32 + 3, math.MaxInt - 1, math.MaxInt}

// misshapen returns entries with one field out of its range, all other fields of which are right.
func misshapen() []api.Entry {
	var out []api.Entry
	for kind := 1; kind <= len(table); kind++ {
		for at := range least(kind) {
			if at == kindAt {
				continue
			}
			low, high := limits(kind, at, most)
			for _, n := range append(wide, low-1, low-2, high+1, high+2) {
				for _, l := range []numbers{least(kind), greatest(kind, most)} {
					l[at] = n
					out = append(out, of(l))
				}
			}
		}
	}
	return out
}

// platform returns a valid configuration with different numbers of all things.
func platform() api.Config {
	return api.Config{
		Regions:   2,
		Zones:     []api.Zone{{Region: 0}, {Region: 1}, {Region: 1}, {Region: 0}, {Region: 1}, {Region: 1}},
		Cells:     []api.Cell{{Zone: 0, Capacity: 100}, {Zone: 1, Capacity: 50}, {Zone: 3, Capacity: 60}, {Zone: 5, Capacity: 20}, {Zone: 5, Capacity: 9}},
		Tenants:   []api.Tenant{{Load: 40, Shadow: 10, Allowed: 3}, {Load: 3, Allowed: 1}, {Load: 9, Allowed: 2, Lag: -1}},
		Versions:  []api.Version{{Low: 0, High: 1}, {Low: 0, High: 2}, {Low: 1, High: 2}, {Low: 2, High: 2}},
		Replicas:  []int{0},
		Observers: []int{0, 1, 2, 3, 4, 5, 0},
		Blast:     8, Lease: 10, Bake: 0,
	}
}

// sized returns a valid configuration with the given numbers of things, all of which stand in region 0.
func sized(s sizes) api.Config {
	return api.Config{
		Regions:   s.regions,
		Zones:     []api.Zone{{Region: 0}},
		Cells:     slices.Repeat([]api.Cell{{Zone: 0, Capacity: 1}}, s.cells),
		Tenants:   slices.Repeat([]api.Tenant{{Load: 1, Allowed: 1}}, s.tenants),
		Versions:  make([]api.Version, s.versions),
		Replicas:  []int{0},
		Observers: []int{0},
		Blast:     1, Lease: 1,
	}
}

// platforms returns valid configurations: a given one, the least and the greatest one, those that lack a single thing of the greatest one, and generated ones.
func platforms() []api.Config {
	r := rand.New(rand.NewSource(61))
	out := []api.Config{platform(), sized(sizes{0, 1, 1, 1}), sized(most)}
	for _, s := range []sizes{{31, 16, 4, 30}, {32, 15, 4, 30}, {32, 16, 3, 30}, {32, 16, 4, 29}, {0, 16, 4, 30}, {32, 1, 4, 30}, {32, 16, 1, 30}, {32, 16, 4, 1}} {
		out = append(out, sized(s))
	}
	for range 20 {
		out = append(out, sized(sizes{r.Intn(33), 1 + r.Intn(16), 1 + r.Intn(4), 1 + r.Intn(30)}))
	}
	return out
}

// checkShape reports an entry whose shape is not as it should be.
func checkShape(t *testing.T, e api.Entry, want bool) {
	t.Helper()
	if got := entry.Shape(e); got != want {
		t.Errorf("Shape(%+v) is %v", e, got)
	}
}

// checkValid reports an entry that is valid, or not, where it should not be so.
func checkValid(t *testing.T, c api.Config, e api.Entry, want bool) {
	t.Helper()
	if got := entry.Valid(c, e); got != want {
		t.Errorf("Valid of %+v is %v where there are %+v", e, got, sizesOf(c))
	}
}

func TestPlatformsAreValid(t *testing.T) {
	for _, c := range platforms() {
		if e := tenant.Valid(c); e != api.OK {
			t.Errorf("tenant.Valid is %d where there are %+v", e, sizesOf(c))
		}
	}
}

// given returns one entry of each kind, with every field that it uses.
func given() []api.Entry {
	return []api.Entry{
		{Kind: api.EntryPlace, Tick: 3, Tenant: 2, Cell: 4, Other: 0},
		{Kind: api.EntryGrant, Tick: 4, Tenant: 1, Cell: 2, Other: -1, Epoch: 7, From: 5, Until: 9, N: 3},
		{Kind: api.EntryCut, Tick: 5, Tenant: 2, Cell: -1, Other: -1, Epoch: 8},
		{Kind: api.EntryStandby, Tick: 6, Tenant: 2, Cell: 4, Other: -1},
		{Kind: api.EntryReady, Tick: 7, Tenant: 2, Cell: 3, Other: -1},
		{Kind: api.EntryMigrate, Tick: 8, Tenant: 2, Cell: 4, Other: -1},
		{Kind: api.EntryAbandon, Tick: 9, Tenant: 1, Cell: -1, Other: -1},
		{Kind: api.EntryShed, Tick: 10, Tenant: 2, Cell: -1, Other: -1, N: 1},
		{Kind: api.EntryMode, Tick: 11, Tenant: -1, Cell: 4, Other: -1, N: api.Draining},
		{Kind: api.EntryWant, Tick: 12, Tenant: -1, Cell: 4, Other: -1, N: 3},
		{Kind: api.EntryRuns, Tick: 13, Tenant: -1, Cell: 3, Other: -1, N: 2},
		{Kind: api.EntryProve, Tick: 14, Tenant: -1, Cell: -1, Other: -1, N: 3},
		{Kind: api.EntryEvacuate, Tick: 15, Tenant: -1, Cell: -1, Other: 1, N: 1},
		{Kind: api.EntryExpand, Tick: 16, Tenant: -1, Cell: -1, Other: -1},
		{Kind: api.EntryContract, Tick: 17, Tenant: -1, Cell: -1, Other: -1},
		{Kind: api.EntryNote, Tick: 18, Tenant: -1, Cell: -1, Other: -1, N: 99},
	}
}

func TestP61GivenEntries(t *testing.T) {
	for _, e := range given() {
		checkShape(t, e, true)
		checkValid(t, platform(), e, true)
	}
	for _, e := range []api.Entry{
		{Kind: api.EntryPlace, Tenant: 0, Cell: 1, Other: -1},
		{Kind: api.EntryStandby, Tenant: 0, Cell: -1, Other: -1},
		{Kind: api.EntryShed, Tenant: 0, Cell: -1, Other: -1},
		{Kind: api.EntryEvacuate, Tenant: -1, Cell: -1},
		{Kind: api.EntryGrant, Tenant: 0, Cell: 0, Other: -1, Epoch: 1, From: 9, Until: 5},
		{Kind: api.EntryGrant, Tenant: 0, Cell: 0, Other: -1, Epoch: api.MaxEpoch, From: api.MaxTick, Until: api.MaxTick},
	} {
		checkShape(t, e, true)
		checkValid(t, platform(), e, true)
	}
}

// Both ends of each range are right, and what lies beyond them is not.
func TestP61RangesOfEachField(t *testing.T) {
	for kind := 1; kind <= len(table); kind++ {
		for at := range least(kind) {
			low, high := limits(kind, at, most)
			for _, n := range []int{low, low + (high-low)/3, high - (high-low)/3, high} {
				for _, l := range []numbers{least(kind), greatest(kind, most)} {
					l[at] = n
					checkShape(t, of(l), right(of(l), most))
				}
			}
		}
		checkShape(t, of(least(kind)), true)
		checkShape(t, of(greatest(kind, most)), true)
	}
	for _, e := range misshapen() {
		checkShape(t, e, false)
		for _, c := range platforms() {
			checkValid(t, c, e, false)
		}
	}
}

func TestP61NoOtherKinds(t *testing.T) {
	for _, kind := range append(wide, -17, -16, -1, 0, 17, 18, 255, 256, 257, 1<<32+16) {
		for _, e := range append(shaped(), api.Entry{}) {
			e.Kind = kind
			checkShape(t, e, false)
			checkValid(t, sized(most), e, false)
		}
	}
}

// Every home with every standby, and cells that do not exist.
func TestP61HomeAndStandbyOfAPlace(t *testing.T) {
	for cell := -3; cell <= 20; cell++ {
		for other := -3; other <= 20; other++ {
			e := api.Entry{Kind: api.EntryPlace, Cell: cell, Other: other}
			ok := cell >= 0 && cell < 16 && other >= -1 && other < 16 && cell != other
			checkShape(t, e, ok)
			checkValid(t, platform(), e, ok && cell < 5 && other < 5)
		}
	}
}

// edges are values of fields at the ends of ranges and beyond them.
var edges = []int{-2, -1, 0, 1, 2, 3, 4, 14, 15, 16, 29, 30, 31, 32, api.MaxEpoch, api.MaxEpoch + 1, api.MaxTick, api.MaxTick + 1}

// The indices of all kinds are tried together, with some epochs and numbers.
func TestP61FollowsItsDefinition(t *testing.T) {
	c := platform()
	for kind := 0; kind <= len(table)+1; kind++ {
		for _, i := range edges[:14] {
			for _, cell := range edges[:10] {
				for _, other := range edges[:10] {
					for _, epoch := range []int{-1, 0, 1} {
						for _, n := range edges {
							e := api.Entry{Kind: kind, Tenant: i, Cell: cell, Other: other, Epoch: epoch, N: n}
							if entry.Shape(e) != right(e, most) || entry.Valid(c, e) != right(e, sizesOf(c)) {
								t.Fatalf("Shape(%+v) is %v, Valid %v", e, entry.Shape(e), entry.Valid(c, e))
							}
						}
					}
				}
			}
		}
	}
}

// One or two fields of a right entry get values at the ends of ranges.
func TestP61FollowsItsDefinitionForGeneratedEntries(t *testing.T) {
	r := rand.New(rand.NewSource(611))
	l := platforms()
	for range 20000 {
		n := list(random(r, 1+r.Intn(len(table))))
		for range r.Intn(3) {
			n[r.Intn(len(n))] = edges[r.Intn(len(edges))]
		}
		e := of(n)
		checkShape(t, e, right(e, most))
		c := l[r.Intn(len(l))]
		checkValid(t, c, e, right(e, sizesOf(c)))
	}
}

// The last thing that exists may be named, and the next one may not, by each field that names one.
func TestP61ValidNamesWhatExists(t *testing.T) {
	for _, c := range platforms() {
		s := sizesOf(c)
		for kind := 1; kind <= len(table); kind++ {
			last := greatest(kind, s)
			checkValid(t, c, of(last), right(of(last), s))
			for at := range last {
				low, high := limits(kind, at, s)
				if _, top := limits(kind, at, most); low > high || high == top {
					continue
				}
				l := last
				l[at] = high + 1
				checkShape(t, of(l), right(of(l), most))
				checkValid(t, c, of(l), false)
			}
		}
	}
}

func TestP61ValidOfGivenPlatform(t *testing.T) {
	for _, e := range []api.Entry{
		{Kind: api.EntryPlace, Tenant: 3, Cell: 0, Other: 1},
		{Kind: api.EntryPlace, Tenant: 0, Cell: 5, Other: 1},
		{Kind: api.EntryPlace, Tenant: 0, Cell: 1, Other: 5},
		{Kind: api.EntryGrant, Tenant: 3, Cell: 0, Other: -1, Epoch: 1},
		{Kind: api.EntryGrant, Tenant: 0, Cell: 5, Other: -1, Epoch: 1},
		{Kind: api.EntryGrant, Tenant: 0, Cell: 0, Other: -1, Epoch: 1, N: 4},
		{Kind: api.EntryCut, Tenant: 3, Cell: -1, Other: -1, Epoch: 1},
		{Kind: api.EntryStandby, Tenant: 3, Cell: -1, Other: -1},
		{Kind: api.EntryStandby, Tenant: 0, Cell: 5, Other: -1},
		{Kind: api.EntryReady, Tenant: 3, Cell: 0, Other: -1},
		{Kind: api.EntryReady, Tenant: 0, Cell: 5, Other: -1},
		{Kind: api.EntryMigrate, Tenant: 3, Cell: 0, Other: -1},
		{Kind: api.EntryMigrate, Tenant: 0, Cell: 5, Other: -1},
		{Kind: api.EntryAbandon, Tenant: 3, Cell: -1, Other: -1},
		{Kind: api.EntryShed, Tenant: 3, Cell: -1, Other: -1},
		{Kind: api.EntryMode, Tenant: -1, Cell: 5, Other: -1, N: api.Up},
		{Kind: api.EntryWant, Tenant: -1, Cell: 5, Other: -1},
		{Kind: api.EntryWant, Tenant: -1, Cell: 0, Other: -1, N: 4},
		{Kind: api.EntryRuns, Tenant: -1, Cell: 5, Other: -1},
		{Kind: api.EntryRuns, Tenant: -1, Cell: 0, Other: -1, N: 4},
		{Kind: api.EntryProve, Tenant: -1, Cell: -1, Other: -1, N: 4},
		{Kind: api.EntryEvacuate, Tenant: -1, Cell: -1, Other: 2},
	} {
		checkShape(t, e, true)
		checkValid(t, platform(), e, false)
	}
}

// Without tenants, the entries of cells, versions, regions and schemas remain.
func TestP61ValidWithoutTenants(t *testing.T) {
	c := platform()
	c.Tenants = nil
	for _, e := range given() {
		checkValid(t, c, e, e.Tenant == -1)
	}
}

// A region exists though no cell lies in it.
func TestP61RegionWithoutCells(t *testing.T) {
	c := sized(sizes{0, 1, 3, 1})
	for region := -1; region <= 3; region++ {
		checkValid(t, c, api.Entry{Kind: api.EntryEvacuate, Tenant: -1, Cell: -1, Other: region}, region >= 0 && region < 3)
	}
}

// written returns the bytes of an entry by the chapter's definition.
func written(e api.Entry) []byte {
	var b []byte
	for _, n := range list(e) {
		b = wire.Int(b, n)
	}
	return b
}

func TestP62BytesOfGivenEntries(t *testing.T) {
	for _, x := range []struct {
		e    api.Entry
		want []byte
	}{
		{api.Entry{}, make([]byte, 9)},
		{api.Entry{Kind: api.EntryExpand, Tenant: -1, Cell: -1, Other: -1}, []byte{28, 0, 1, 1, 1, 0, 0, 0, 0}},
		{api.Entry{Kind: 1, Tick: 2, Tenant: 3, Cell: 4, Other: 5, Epoch: 6, From: 7, Until: 8, N: 9}, []byte{2, 4, 6, 8, 10, 12, 14, 16, 18}},
		{api.Entry{Kind: 2, Tick: 64, Tenant: 31, Cell: 15, Other: -1, Epoch: 1 << 20, From: 100, Until: 8192, N: 29}, []byte{4, 128, 1, 62, 30, 1, 128, 128, 128, 1, 200, 1, 128, 128, 1, 58}},
		{api.Entry{Kind: -1, Tick: -64, Tenant: -65, Cell: -2, Other: -3, Epoch: -4, From: -5, Until: -6, N: -7}, []byte{1, 127, 129, 1, 3, 5, 7, 9, 11, 13}},
		{api.Entry{Kind: 16, Tick: 1 << 30, Tenant: -1, Cell: -1, Other: -1, N: 1 << 30}, []byte{32, 128, 128, 128, 128, 8, 1, 1, 1, 0, 0, 0, 128, 128, 128, 128, 8}},
	} {
		if got := entry.Bytes(x.e); !bytes.Equal(got, x.want) {
			t.Errorf("Bytes(%+v) is %v, not %v", x.e, got, x.want)
		}
	}
}

// Entries of the wrong shape have bytes too.
func TestP62BytesFollowTheDefinition(t *testing.T) {
	for _, e := range slices.Concat(shaped(), misshapen()) {
		if got := entry.Bytes(e); !bytes.Equal(got, written(e)) {
			t.Errorf("Bytes(%+v) is %v, not %v", e, got, written(e))
		}
	}
}

// checkRead reports a Read that does not return the entry and the number of its bytes.
func checkRead(t *testing.T, b []byte, e api.Entry, size int) {
	t.Helper()
	if got, n, err := entry.Read(b); got != e || n != size || err != api.OK {
		t.Errorf("Read(%v) is %+v, %d, %d, not %+v, %d", b, got, n, err, e, size)
	}
}

// checkReadFails reports a Read that does not return the error, or returns something beside it.
func checkReadFails(t *testing.T, b []byte, want api.Errno) {
	t.Helper()
	if e, n, err := entry.Read(b); e != (api.Entry{}) || n != 0 || err != want {
		t.Errorf("Read(%v) is %+v, %d, %d, not error %d", b, e, n, err, want)
	}
}

func TestP62ReadOfGivenBytes(t *testing.T) {
	checkRead(t, []byte{28, 6, 1, 1, 1, 0, 0, 0, 0}, api.Entry{Kind: api.EntryExpand, Tick: 3, Tenant: -1, Cell: -1, Other: -1}, 9)
	checkRead(t, []byte{2, 128, 1, 62, 30, 28, 0, 0, 0, 0, 0, 77}, api.Entry{Kind: api.EntryPlace, Tick: 64, Tenant: 31, Cell: 15, Other: 14}, 10)
	checkRead(t, []byte{4, 0, 62, 30, 1, 128, 128, 128, 1, 200, 1, 128, 128, 1, 58}, api.Entry{Kind: api.EntryGrant, Tenant: 31, Cell: 15, Other: -1, Epoch: 1 << 20, From: 100, Until: 8192, N: 29}, 15)
}

// tails are bytes that may follow an entry.
func tails() [][]byte {
	return [][]byte{nil, {0}, {128}, {255, 255, 255}, bytes.Repeat([]byte{128}, 10), written(given()[0])}
}

func TestP62ReadReturnsWhatBytesWrote(t *testing.T) {
	for _, e := range shaped() {
		b := entry.Bytes(e)
		for _, tail := range tails() {
			checkRead(t, slices.Concat(b, tail), e, len(b))
		}
	}
}

func TestP62ReadOfEntriesOneAfterTheOther(t *testing.T) {
	var b []byte
	for _, e := range shaped() {
		b = append(b, entry.Bytes(e)...)
	}
	for _, want := range shaped() {
		e, n, err := entry.Read(b)
		if e != want || err != api.OK {
			t.Fatalf("Read is %+v, %d, %d, not %+v", e, n, err, want)
		}
		b = b[n:]
	}
	checkReadFails(t, b, api.ErrShort)
}

// An entry that is cut is short, whatever its shape.
func TestP62ReadOfAPart(t *testing.T) {
	for _, e := range slices.Concat(given(), shaped()[:40], misshapen()[:200], []api.Entry{{}}) {
		b := entry.Bytes(e)
		for size := range b {
			checkReadFails(t, b[:size], api.ErrShort)
		}
	}
	checkReadFails(t, nil, api.ErrShort)
}

// Each integer in its place is replaced by bytes that are none, with and without the other integers behind it.
func TestP62ReadOfABrokenInteger(t *testing.T) {
	broken := [][]byte{{128, 0}, {129, 128, 0}, bytes.Repeat([]byte{128}, 10), append(bytes.Repeat([]byte{128}, 9), 2)}
	for _, e := range append(given(), api.Entry{}, api.Entry{Kind: 17, Tick: -1}) {
		for at := range list(e) {
			before, behind := part(e, 0, at), part(e, at+1, 9)
			for _, b := range broken {
				checkReadFails(t, slices.Concat(before, b), api.ErrCorrupt)
				checkReadFails(t, slices.Concat(before, b, []byte{128}), api.ErrCorrupt)
				checkReadFails(t, slices.Concat(before, b, behind), api.ErrCorrupt)
			}
			checkReadFails(t, slices.Concat(before, bytes.Repeat([]byte{128}, 9)), api.ErrShort)
		}
	}
}

// part returns the bytes of some fields of an entry.
func part(e api.Entry, from, until int) []byte {
	var b []byte
	l := list(e)
	for _, n := range l[from:until] {
		b = wire.Int(b, n)
	}
	return b
}

// What follows the ninth integer does not matter.
func TestP62ReadOfTheWrongShape(t *testing.T) {
	for _, e := range append(misshapen(), api.Entry{}, api.Entry{Kind: 17, Tenant: -1, Cell: -1, Other: -1}, api.Entry{Kind: 1, Cell: 3, Other: 3}) {
		for _, tail := range tails() {
			checkReadFails(t, slices.Concat(written(e), tail), api.ErrCorrupt)
		}
	}
}

// read is Read by its definition.
func read(b []byte) (api.Entry, int, api.Errno) {
	var l numbers
	size := 0
	for at := range l {
		n, used, err := wire.TakeInt(b[size:])
		if err != api.OK {
			return api.Entry{}, 0, err
		}
		l[at], size = n, size+used
	}
	if !right(of(l), most) {
		return api.Entry{}, 0, api.ErrCorrupt
	}
	return of(l), size, api.OK
}

// Bytes of an entry are changed, removed and inserted.
func TestP62ReadFollowsItsDefinition(t *testing.T) {
	r := rand.New(rand.NewSource(62))
	for _, e := range slices.Concat(given(), shaped()) {
		for range 30 {
			b := written(e)
			for range 1 + r.Intn(2) {
				i := r.Intn(len(b))
				b = slices.Replace(b, i, i+r.Intn(2), []byte{0, 1, 28, 62, 127, 128, 255, byte(r.Intn(256))}[r.Intn(8):][:1]...)
			}
			want, size, err := read(b)
			if err != api.OK {
				checkReadFails(t, b, err)
				continue
			}
			checkRead(t, b, want, size)
			if !bytes.Equal(entry.Bytes(want), b[:size]) {
				t.Errorf("Read accepts %v, which Bytes does not write", b)
			}
		}
	}
}

func TestP63Names(t *testing.T) {
	for i, x := range table {
		if got := entry.Name(i + 1); got != x.name {
			t.Errorf("Name(%d) is %q, not %q", i+1, got, x.name)
		}
	}
	for _, kind := range append(wide, -17, -16, -1, 0, 17, 18, 32, 255, 256, 257, 1<<32+16) {
		if got := entry.Name(kind); got != "" {
			t.Errorf("Name(%d) is %q", kind, got)
		}
	}
}

// The constants of the kinds have their own names.
func TestP63NamesOfConstants(t *testing.T) {
	for _, x := range []struct {
		kind int
		name string
	}{
		{api.EntryPlace, "place"}, {api.EntryGrant, "grant"}, {api.EntryCut, "cut"}, {api.EntryStandby, "standby"},
		{api.EntryReady, "ready"}, {api.EntryMigrate, "migrate"}, {api.EntryAbandon, "abandon"}, {api.EntryShed, "shed"},
		{api.EntryMode, "mode"}, {api.EntryWant, "want"}, {api.EntryRuns, "runs"}, {api.EntryProve, "prove"},
		{api.EntryEvacuate, "evacuate"}, {api.EntryExpand, "expand"}, {api.EntryContract, "contract"}, {api.EntryNote, "note"},
	} {
		if got := entry.Name(x.kind); got != x.name {
			t.Errorf("Name(%d) is %q, not %q", x.kind, got, x.name)
		}
	}
}

// Every entry with the right shape is read from its bytes, and no other one is.
func TestConsequenceReadReturnsWhatHasTheShape(t *testing.T) {
	for _, e := range slices.Concat(given(), shaped(), misshapen()) {
		b := entry.Bytes(e)
		if entry.Shape(e) {
			checkRead(t, b, e, len(b))
		} else {
			checkReadFails(t, b, api.ErrCorrupt)
		}
	}
}

func TestConsequenceValidEntriesHaveTheShape(t *testing.T) {
	found := 0
	for _, c := range platforms() {
		for _, e := range slices.Concat(given(), shaped(), misshapen()) {
			if !entry.Valid(c, e) {
				continue
			}
			found++
			checkShape(t, e, true)
		}
	}
	if found == 0 {
		t.Error("no entry is valid")
	}
}

func TestExamples(t *testing.T) {
	checkShape(t, api.Entry{Kind: api.EntryExpand, Tenant: -1, Cell: -1, Other: -1}, true)
	checkShape(t, api.Entry{}, false)
	if got := entry.Name(api.EntryCut); got != "cut" {
		t.Errorf("Name(EntryCut) is %q", got)
	}
}

// invalid returns configurations that are not valid.
func invalid() []api.Config {
	return []api.Config{
		{},
		{Regions: math.MinInt, Tenants: make([]api.Tenant, 33), Cells: make([]api.Cell, 17), Versions: make([]api.Version, 31)},
		{Regions: math.MaxInt, Cells: []api.Cell{{Zone: -1}, {Zone: 99}}, Zones: []api.Zone{{Region: -7}}},
	}
}

// Configurations that are not valid must do no harm, and stay as they are.
func TestR1InvalidConfigurations(t *testing.T) {
	l := invalid()
	for _, c := range l {
		for _, e := range slices.Concat(given(), misshapen()) {
			entry.Valid(c, e)
		}
	}
	if !reflect.DeepEqual(l, invalid()) {
		t.Errorf("configurations have become %v", l)
	}
}

// Any bytes may be read.
func TestR1AnyBytes(t *testing.T) {
	r := rand.New(rand.NewSource(1))
	for range 20000 {
		b := make([]byte, r.Intn(100))
		for i := range b {
			b[i] = byte(r.Intn(256)) >> r.Intn(8)
		}
		want, size, err := read(b)
		if err != api.OK {
			checkReadFails(t, b, err)
			continue
		}
		checkRead(t, b, want, size)
	}
}

func TestR2ArgumentsStayAsTheyAre(t *testing.T) {
	c := platform()
	for _, e := range slices.Concat(given(), misshapen()) {
		entry.Valid(c, e)
		whole := slices.Concat(written(e), []byte{1, 2, 3})
		kept := slices.Clone(whole)
		for size := range whole {
			entry.Read(whole[:size])
		}
		if !bytes.Equal(whole, kept) {
			t.Fatalf("Read changes %v to %v", kept, whole)
		}
	}
	if !reflect.DeepEqual(c, platform()) {
		t.Errorf("a configuration has become %v", c)
	}
}

// The spare capacity holds what would be right if it were read.
func TestR2SpareCapacityIsNotRead(t *testing.T) {
	for _, e := range shaped() {
		b := written(e)
		checkReadFails(t, b[:len(b)-1], api.ErrShort)
		checkReadFails(t, b[:0], api.ErrShort)
	}
	c := platform()
	c.Tenants, c.Cells, c.Versions = c.Tenants[:1], c.Cells[:2], c.Versions[:1]
	for _, e := range shaped() {
		checkValid(t, c, e, right(e, sizes{1, 2, 2, 1}))
	}
}

func TestR2ResultsAreNewMemory(t *testing.T) {
	for _, e := range slices.Concat(given(), misshapen()) {
		first := entry.Bytes(e)
		second := entry.Bytes(e)
		spare := second[:cap(second)]
		for i := range spare {
			spare[i] = 77
		}
		if !bytes.Equal(first, written(e)) || !bytes.Equal(entry.Bytes(e), written(e)) {
			t.Errorf("results of Bytes(%+v) share memory", e)
		}
	}
}

// The same memory holds another configuration and other bytes in between.
func TestR3NothingIsRemembered(t *testing.T) {
	c := platform()
	b := written(given()[0])
	checkRead(t, b, given()[0], len(b))
	checkValid(t, c, given()[0], true)
	c.Tenants = c.Tenants[:2]
	checkValid(t, c, given()[0], false)
	c.Tenants = c.Tenants[:3]
	checkValid(t, c, given()[0], true)
	copy(b, written(api.Entry{}))
	checkReadFails(t, b, api.ErrCorrupt)
	copy(b, written(given()[3]))
	checkRead(t, b, given()[3], len(b))
}
