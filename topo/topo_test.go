package topo_test

import (
	"math"
	"math/rand"
	"reflect"
	"slices"
	"testing"

	"cellplane/api"
	"cellplane/topo"
)

// platform returns a configuration in which the cells of a zone and the zones of a region do not stand side by side; zone 5 and region 3 have no cells.
func platform() api.Config {
	return api.Config{
		Regions: 4,
		Zones:   []api.Zone{{Region: 2}, {Region: 0}, {Region: 1}, {Region: 0}, {Region: 2}, {Region: 3}},
		Cells: []api.Cell{
			{Zone: 3, Capacity: 7},
			{Zone: 0, Capacity: 100},
			{Zone: 2, Capacity: 1},
			{Zone: 3, Capacity: 1000},
			{Zone: 1, Capacity: 20},
			{Zone: 4, Capacity: api.MaxCapacity},
			{Zone: 0, Capacity: 3},
		},
		Tenants:   []api.Tenant{{Load: 40, Shadow: 10, Priority: 5, Allowed: 7}, {Load: 30, Lag: -1, Allowed: 3, Group: 1}},
		Versions:  []api.Version{{Low: 0, High: 1}, {Low: 1, High: 2}, {Low: 2, High: 2}},
		Replicas:  []int{3, 1, 2, 5, 0},
		Observers: []int{0, 1, 5, 5},
		Blast:     2, Lease: 10, Bake: 5,
	}
}

// least returns the configuration in which everything is as small as it may be.
func least() api.Config {
	return api.Config{
		Regions:   1,
		Zones:     []api.Zone{{Region: 0}},
		Cells:     []api.Cell{{Zone: 0, Capacity: 1}},
		Versions:  []api.Version{{Low: 0, High: 0}},
		Replicas:  []int{0},
		Observers: []int{0},
		Blast:     1, Lease: 1, Bake: 0,
	}
}

// greatest returns the configuration in which everything is as great as it may be.
func greatest() api.Config {
	lastZone := api.MaxZones - 1
	return api.Config{
		Regions:   api.MaxRegions,
		Zones:     slices.Repeat([]api.Zone{{Region: api.MaxRegions - 1}}, api.MaxZones),
		Cells:     slices.Repeat([]api.Cell{{Zone: lastZone, Capacity: api.MaxCapacity}}, api.MaxCells),
		Tenants:   make([]api.Tenant, api.MaxTenants),
		Versions:  append([]api.Version{{Low: 0, High: api.MaxSchema}}, slices.Repeat([]api.Version{{Low: api.MaxSchema, High: api.MaxSchema}}, api.MaxVersions-1)...),
		Replicas:  slices.Repeat([]int{lastZone}, api.MaxReplicas),
		Observers: slices.Repeat([]int{lastZone}, api.MaxObservers),
		Blast:     api.MaxCells, Lease: api.MaxLease, Bake: api.MaxBake,
	}
}

// random returns a configuration for which Valid returns OK, with lists of any permitted length.
func random(r *rand.Rand) api.Config {
	c := api.Config{
		Regions:   1 + r.Intn(api.MaxRegions),
		Zones:     make([]api.Zone, 1+r.Intn(api.MaxZones)),
		Cells:     make([]api.Cell, 1+r.Intn(api.MaxCells)),
		Tenants:   make([]api.Tenant, r.Intn(api.MaxTenants+1)),
		Versions:  make([]api.Version, 1+r.Intn(api.MaxVersions)),
		Replicas:  make([]int, 1+2*r.Intn((api.MaxReplicas+1)/2)),
		Observers: make([]int, 1+r.Intn(api.MaxObservers)),
		Blast:     1 + r.Intn(api.MaxCells), Lease: 1 + r.Intn(api.MaxLease), Bake: r.Intn(api.MaxBake + 1),
	}
	for i := range c.Zones {
		c.Zones[i].Region = r.Intn(c.Regions)
	}
	for i := range c.Cells {
		c.Cells[i] = api.Cell{Zone: r.Intn(len(c.Zones)), Capacity: 1 + r.Intn(api.MaxCapacity)}
	}
	for i := range c.Versions {
		c.Versions[i].High = r.Intn(api.MaxSchema + 1)
		if i > 0 {
			c.Versions[i].Low = r.Intn(c.Versions[i].High + 1)
		}
	}
	for i := range c.Replicas {
		c.Replicas[i] = r.Intn(len(c.Zones))
	}
	for i := range c.Observers {
		c.Observers[i] = r.Intn(len(c.Zones))
	}
	return c
}

// platforms returns configurations for which Valid returns OK.
func platforms() []api.Config {
	r := rand.New(rand.NewSource(4))
	l := []api.Config{platform(), least(), greatest()}
	for range 400 {
		l = append(l, random(r))
	}
	return l
}

// wide are integers far from every index.
var wide = []int{math.MinInt, math.MinInt + 1, -1 << 32, -65, -64, -2, -1, 64, 65, 1 << 32, math.MaxInt - 1, math.MaxInt}

// indices returns integers that denote all of n elements, and some that denote none.
func indices(n int) []int {
	l := slices.Clone(wide)
	for i := range n + 3 {
		l = append(l, i)
	}
	return l
}

// sets returns sets of regions: all of those of the first seven bits, and some with bits that do not count.
func sets() []int {
	l := slices.Clone(wide)
	for i := -70; i < 1<<7; i++ {
		l = append(l, i)
	}
	for set := range 1 << api.MaxRegions {
		l = append(l, set|1<<62, set|math.MinInt, set|1<<api.MaxRegions, set-1<<api.MaxRegions)
	}
	return l
}

// change is a change of a platform, with a name for reports.
type change struct {
	name  string
	apply func(c *api.Config)
}

// lengths returns changes of the number of everything that a configuration counts, to one beyond its limits and far beyond.
func lengths() []change {
	l := []change{
		{"no zones", func(c *api.Config) { c.Zones = nil }},
		{"no cells", func(c *api.Config) { c.Cells = []api.Cell{} }},
		{"no versions", func(c *api.Config) { c.Versions = nil }},
		{"no replicas", func(c *api.Config) { c.Replicas = nil }},
		{"no observers", func(c *api.Config) { c.Observers = []int{} }},
	}
	for _, n := range []int{math.MinInt, -1, 0, api.MaxRegions + 1, api.MaxRegions + 2, 64, math.MaxInt} {
		l = append(l, change{"number of regions", func(c *api.Config) { c.Regions = n }})
	}
	for _, more := range []int{1, 2, 3, 100} {
		l = append(l,
			change{"too many zones", func(c *api.Config) { c.Zones = slices.Repeat(c.Zones[:1], api.MaxZones+more) }},
			change{"too many cells", func(c *api.Config) { c.Cells = slices.Repeat(c.Cells[:1], api.MaxCells+more) }},
			change{"too many versions", func(c *api.Config) { c.Versions = slices.Repeat(c.Versions[:1], api.MaxVersions+more) }},
			change{"too many replicas", func(c *api.Config) { c.Replicas = slices.Repeat(c.Replicas[:1], api.MaxReplicas+more) }},
			change{"too many observers", func(c *api.Config) { c.Observers = slices.Repeat(c.Observers[:1], api.MaxObservers+more) }},
			change{"too many tenants", func(c *api.Config) { c.Tenants = make([]api.Tenant, api.MaxTenants+more) }},
		)
	}
	return l
}

// outside returns integers that are less than low or greater than high.
func outside(low, high int) []int {
	return []int{low - 1, low - 2, high + 1, high + 2, math.MinInt, math.MaxInt}
}

// places returns changes that make a zone, a cell, a replica or an observer stand where nothing is.
func places() []change {
	var l []change
	p := platform()
	for _, n := range outside(0, len(p.Zones)-1) {
		for i := range p.Cells {
			l = append(l, change{"zone of a cell", func(c *api.Config) { c.Cells[i].Zone = n }})
		}
		for i := range p.Replicas {
			l = append(l, change{"zone of a replica", func(c *api.Config) { c.Replicas[i] = n }})
		}
		for i := range p.Observers {
			l = append(l, change{"zone of an observer", func(c *api.Config) { c.Observers[i] = n }})
		}
	}
	for _, n := range outside(0, p.Regions-1) {
		for i := range p.Zones {
			l = append(l, change{"region of a zone", func(c *api.Config) { c.Zones[i].Region = n }})
		}
	}
	return append(l,
		change{"one region less", func(c *api.Config) { c.Regions-- }},
		change{"one zone less", func(c *api.Config) { c.Zones = c.Zones[:len(c.Zones)-1] }},
	)
}

// numbers returns changes of capacities, versions and bounds to what they may not be.
func numbers() []change {
	var l []change
	p := platform()
	for i := range p.Cells {
		for _, n := range outside(1, api.MaxCapacity) {
			l = append(l, change{"capacity", func(c *api.Config) { c.Cells[i].Capacity = n }})
		}
	}
	for i := range p.Versions {
		for _, v := range [][2]int{{-1, 0}, {-1, -1}, {-1, 5}, {1, 0}, {2, 1}, {0, -1}, {0, api.MaxSchema + 1}, {api.MaxSchema + 1, api.MaxSchema + 1}, {api.MaxSchema, 0}, {math.MinInt, math.MaxInt}, {math.MinInt, 0}, {0, math.MaxInt}, {0, math.MinInt}} {
			l = append(l, change{"version", func(c *api.Config) { c.Versions[i] = api.Version{Low: v[0], High: v[1]} }})
		}
	}
	for _, n := range []int{1, 2, api.MaxSchema} {
		l = append(l, change{"Low of version 0", func(c *api.Config) { c.Versions[0] = api.Version{Low: n, High: api.MaxSchema} }})
	}
	for _, n := range outside(1, api.MaxCells) {
		l = append(l, change{"Blast", func(c *api.Config) { c.Blast = n }})
	}
	for _, n := range outside(1, api.MaxLease) {
		l = append(l, change{"Lease", func(c *api.Config) { c.Lease = n }})
	}
	for _, n := range outside(0, api.MaxBake) {
		l = append(l, change{"Bake", func(c *api.Config) { c.Bake = n }})
	}
	return append(l,
		change{"two replicas", func(c *api.Config) { c.Replicas = c.Replicas[:2] }},
		change{"four replicas", func(c *api.Config) { c.Replicas = c.Replicas[:4] }},
	)
}

// checkValid reports a result of Valid that is not the wanted one.
func checkValid(t *testing.T, name string, c api.Config, want api.Errno) {
	t.Helper()
	if e := topo.Valid(c); e != want {
		t.Errorf("%s: Valid returns %d, not %d, for %v", name, e, want, c)
	}
}

func TestP41ValidConfigurations(t *testing.T) {
	for _, c := range platforms() {
		checkValid(t, "configuration", c, api.OK)
	}
}

// Each number at both ends of its range, alone.
func TestP41EndsOfRanges(t *testing.T) {
	for i, apply := range []func(c *api.Config){
		func(c *api.Config) { c.Replicas = c.Replicas[:1] },
		func(c *api.Config) { c.Replicas = c.Replicas[:3] },
		func(c *api.Config) { c.Replicas = []int{0, 0, 0, 0, 0} },
		func(c *api.Config) { c.Observers = c.Observers[:1] },
		func(c *api.Config) { c.Observers = c.Observers[:2] },
		func(c *api.Config) { c.Tenants = nil },
		func(c *api.Config) { c.Tenants = c.Tenants[:1] },
		func(c *api.Config) { c.Cells = c.Cells[:1] },
		func(c *api.Config) { c.Versions = c.Versions[:1] },
		func(c *api.Config) { c.Versions[0] = api.Version{Low: 0, High: 0} },
		func(c *api.Config) { c.Versions[0] = api.Version{Low: 0, High: api.MaxSchema} },
		func(c *api.Config) { c.Versions[2] = api.Version{Low: 0, High: 0} },
		func(c *api.Config) { c.Versions[2] = api.Version{Low: 0, High: api.MaxSchema} },
		func(c *api.Config) { c.Versions[2] = api.Version{Low: api.MaxSchema, High: api.MaxSchema} },
		func(c *api.Config) { c.Cells[0].Capacity = 1 },
		func(c *api.Config) { c.Cells[0].Capacity = api.MaxCapacity },
		func(c *api.Config) { c.Blast = 1 },
		func(c *api.Config) { c.Blast = api.MaxCells },
		func(c *api.Config) { c.Lease = 1 },
		func(c *api.Config) { c.Lease = api.MaxLease },
		func(c *api.Config) { c.Bake = 0 },
		func(c *api.Config) { c.Bake = api.MaxBake },
	} {
		c := platform()
		apply(&c)
		if e := topo.Valid(c); e != api.OK {
			t.Errorf("change %d: Valid returns %d", i, e)
		}
	}
}

func TestP41LimitsOfNumbers(t *testing.T) {
	for _, x := range lengths() {
		c := platform()
		x.apply(&c)
		checkValid(t, x.name, c, api.ErrLimit)
	}
	checkValid(t, "no configuration", api.Config{}, api.ErrLimit)
}

// The limits at the greatest configuration, in which every other number stands at its own.
func TestP41LimitsAreExceededByOne(t *testing.T) {
	for i, apply := range []func(c *api.Config){
		func(c *api.Config) { c.Regions++ },
		func(c *api.Config) { c.Zones = append(c.Zones, c.Zones[0]) },
		func(c *api.Config) { c.Cells = append(c.Cells, c.Cells[0]) },
		func(c *api.Config) { c.Versions = append(c.Versions, c.Versions[0]) },
		func(c *api.Config) { c.Replicas = append(c.Replicas, c.Replicas[0], c.Replicas[0]) },
		func(c *api.Config) { c.Observers = append(c.Observers, c.Observers[0]) },
		func(c *api.Config) { c.Tenants = append(c.Tenants, c.Tenants[0]) },
	} {
		c := greatest()
		apply(&c)
		if e := topo.Valid(c); e != api.ErrLimit {
			t.Errorf("change %d: Valid returns %d", i, e)
		}
	}
}

func TestP41ThingsThatDoNotExist(t *testing.T) {
	for _, x := range places() {
		c := platform()
		x.apply(&c)
		checkValid(t, x.name, c, api.ErrArg)
	}
}

func TestP41NumbersOutOfRange(t *testing.T) {
	for _, x := range numbers() {
		c := platform()
		x.apply(&c)
		checkValid(t, x.name, c, api.ErrArg)
	}
}

// A limit that is exceeded decides, whatever else is wrong.
func TestP41OrderOfErrors(t *testing.T) {
	for _, arg := range append(places(), numbers()...) {
		for _, limit := range lengths() {
			c := platform()
			arg.apply(&c)
			limit.apply(&c)
			checkValid(t, arg.name+", "+limit.name, c, api.ErrLimit)
		}
	}
	both := platform()
	both.Replicas = slices.Repeat([]int{-1}, api.MaxReplicas+1)
	checkValid(t, "an even number of replicas above the limit", both, api.ErrLimit)
}

func TestP41TenantsAreNotChecked(t *testing.T) {
	for _, n := range wide {
		c := platform()
		c.Tenants[1] = api.Tenant{Load: n, Shadow: n, Priority: n, Lag: n, Allowed: n, Group: n, Noisy: true}
		checkValid(t, "tenants", c, api.OK)
	}
	c := platform()
	c.Tenants = make([]api.Tenant, api.MaxTenants)
	checkValid(t, "tenants that are zero", c, api.OK)
}

// checkCells reports cells that are not the wanted ones.
func checkCells(t *testing.T, name string, n int, got, want []int) {
	t.Helper()
	if !slices.Equal(got, want) {
		t.Errorf("%s of %d is %v, not %v", name, n, got, want)
	}
}

func TestP42ZonesAndRegionsOfGivenCells(t *testing.T) {
	c := platform()
	zones := []int{3, 0, 2, 3, 1, 4, 0}
	regions := []int{0, 2, 1, 0, 0, 2, 2}
	for cell := range c.Cells {
		if got := topo.ZoneOf(c, cell); got != zones[cell] {
			t.Errorf("ZoneOf(%d) is %d, not %d", cell, got, zones[cell])
		}
		if got := topo.RegionOf(c, cell); got != regions[cell] {
			t.Errorf("RegionOf(%d) is %d, not %d", cell, got, regions[cell])
		}
	}
	for _, cell := range append(wide, len(c.Cells), len(c.Cells)+1) {
		if zone, region := topo.ZoneOf(c, cell), topo.RegionOf(c, cell); zone != -1 || region != -1 {
			t.Errorf("ZoneOf and RegionOf of %d are %d and %d", cell, zone, region)
		}
	}
}

func TestP42CellsOfGivenZonesAndRegions(t *testing.T) {
	c := platform()
	for zone, want := range [][]int{{1, 6}, {4}, {2}, {0, 3}, {5}, nil, nil, nil} {
		checkCells(t, "InZone", zone, topo.InZone(c, zone), want)
	}
	for region, want := range [][]int{{0, 3, 4}, {2}, {1, 5, 6}, nil, nil, nil} {
		checkCells(t, "InRegion", region, topo.InRegion(c, region), want)
	}
	for _, n := range wide {
		checkCells(t, "InZone", n, topo.InZone(c, n), nil)
		checkCells(t, "InRegion", n, topo.InRegion(c, n), nil)
	}
}

func TestP42AliveOfGivenSets(t *testing.T) {
	c := platform()
	for lost, want := range [][]int{
		{0, 1, 2, 3, 4, 5, 6},
		{1, 2, 5, 6},
		{0, 1, 3, 4, 5, 6},
		{1, 5, 6},
		{0, 2, 3, 4},
		{2},
		{0, 3, 4},
		nil,
	} {
		for _, others := range []int{0, 8, 16, 24, 32, 1 << 40, 1 << 62, math.MinInt, -8} {
			checkCells(t, "Alive", lost|others, topo.Alive(c, lost|others), want)
		}
	}
}

func TestP42CapacityOfGivenRegions(t *testing.T) {
	c := platform()
	for region, want := range []int{1027, 1, api.MaxCapacity + 103, 0, 0, 0} {
		if got := topo.Capacity(c, region); got != want {
			t.Errorf("Capacity(%d) is %d, not %d", region, got, want)
		}
	}
	for _, region := range wide {
		if got := topo.Capacity(c, region); got != 0 {
			t.Errorf("Capacity(%d) is %d", region, got)
		}
	}
	all := greatest()
	if got := topo.Capacity(all, api.MaxRegions-1); got != api.MaxCells*api.MaxCapacity {
		t.Errorf("Capacity of the greatest region is %d", got)
	}
}

func TestP42MajorityOfGivenSets(t *testing.T) {
	c := platform()
	// Two replicas stand in region 0, and one in each other region.
	for lost, want := range []bool{true, true, true, false, true, false, true, false, true, false, true, false, true, false, false, false} {
		for _, others := range []int{0, 16, 32, 1 << 40, 1 << 62, math.MinInt, -16} {
			if got := topo.Majority(c, lost|others); got != want {
				t.Errorf("Majority(%d) is %v", lost|others, got)
			}
		}
	}
	c.Replicas = []int{2}
	if !topo.Majority(c, 1+4+8) || topo.Majority(c, 2) {
		t.Error("Majority of a single replica")
	}
	c.Replicas = []int{2, 2, 0}
	if !topo.Majority(c, 4) || topo.Majority(c, 2) {
		t.Error("Majority of two replicas in one zone")
	}
}

// cellsWith returns the cells with which a condition holds, ascending.
func cellsWith(c api.Config, holds func(zone, region int) bool) []int {
	var l []int
	for i := range c.Cells {
		zone := c.Cells[i].Zone
		if holds(zone, c.Zones[zone].Region) {
			l = append(l, i)
		}
	}
	return l
}

// members returns the regions of a set, by division.
func members(c api.Config, set int) []int {
	var l []int
	bits := uint64(set)
	for region := range c.Regions {
		if bits%2 == 1 {
			l = append(l, region)
		}
		bits /= 2
	}
	return l
}

// hasMajority is Majority by its definition.
func hasMajority(c api.Config, lost []int) bool {
	left, gone := 0, 0
	for _, zone := range c.Replicas {
		if slices.Contains(lost, c.Zones[zone].Region) {
			gone++
		} else {
			left++
		}
	}
	return left > gone
}

func TestP42ZonesAndRegionsFollowTheirDefinitions(t *testing.T) {
	for _, c := range platforms() {
		for _, cell := range indices(len(c.Cells)) {
			zone, region := -1, -1
			if cell >= 0 && cell < len(c.Cells) {
				zone = c.Cells[cell].Zone
				region = c.Zones[zone].Region
			}
			if topo.ZoneOf(c, cell) != zone || topo.RegionOf(c, cell) != region {
				t.Fatalf("ZoneOf or RegionOf of cell %d in %v", cell, c)
			}
		}
		for _, n := range indices(len(c.Zones)) {
			checkCells(t, "InZone", n, topo.InZone(c, n), cellsWith(c, func(zone, region int) bool { return zone == n }))
		}
		for _, n := range indices(c.Regions) {
			want := cellsWith(c, func(zone, region int) bool { return region == n })
			checkCells(t, "InRegion", n, topo.InRegion(c, n), want)
			sum := 0
			for _, cell := range want {
				sum += c.Cells[cell].Capacity
			}
			if got := topo.Capacity(c, n); got != sum {
				t.Fatalf("Capacity(%d) is %d, not %d, in %v", n, got, sum, c)
			}
		}
	}
}

func TestP42LostRegionsFollowTheirDefinition(t *testing.T) {
	for _, c := range platforms() {
		for _, set := range sets() {
			lost := members(c, set)
			want := cellsWith(c, func(zone, region int) bool { return !slices.Contains(lost, region) })
			checkCells(t, "Alive", set, topo.Alive(c, set), want)
			if got := topo.Majority(c, set); got != hasMajority(c, lost) {
				t.Fatalf("Majority(%d) is %v in %v", set, got, c)
			}
		}
	}
}

func TestConsequenceEveryCellHasOneZoneAndOneRegion(t *testing.T) {
	for _, c := range platforms() {
		var byZone, byRegion []int
		for zone := range c.Zones {
			byZone = append(byZone, topo.InZone(c, zone)...)
		}
		capacity, want := 0, 0
		for region := range c.Regions {
			byRegion = append(byRegion, topo.InRegion(c, region)...)
			capacity += topo.Capacity(c, region)
		}
		for _, cell := range c.Cells {
			want += cell.Capacity
		}
		all := cellsWith(c, func(zone, region int) bool { return true })
		slices.Sort(byZone)
		slices.Sort(byRegion)
		checkCells(t, "the union of InZone", len(c.Zones), byZone, all)
		checkCells(t, "the union of InRegion", c.Regions, byRegion, all)
		if capacity != want {
			t.Errorf("the capacities of the regions sum to %d, not %d", capacity, want)
		}
	}
}

func TestConsequenceAliveWithNoRegionLostAreAllCells(t *testing.T) {
	for _, c := range platforms() {
		all := cellsWith(c, func(zone, region int) bool { return true })
		checkCells(t, "Alive", 0, topo.Alive(c, 0), all)
		checkCells(t, "Alive", 1<<c.Regions, topo.Alive(c, 1<<c.Regions), all)
		checkCells(t, "Alive", 1<<c.Regions-1, topo.Alive(c, 1<<c.Regions-1), nil)
	}
}

func TestExamples(t *testing.T) {
	for _, c := range platforms() {
		if topo.RegionOf(c, -1) != -1 {
			t.Error("RegionOf(c, -1) is not -1")
		}
		if !topo.Majority(c, 0) {
			t.Error("there is no majority with no region lost")
		}
	}
}

// callAll calls every function of the package.
func callAll(c api.Config, n int) {
	topo.Valid(c)
	topo.ZoneOf(c, n)
	topo.RegionOf(c, n)
	topo.InZone(c, n)
	topo.InRegion(c, n)
	topo.Alive(c, n)
	topo.Capacity(c, n)
	topo.Majority(c, n)
}

// Configurations for which Valid returns an error must do no harm either, and stay as they are.
func TestR1InvalidConfigurations(t *testing.T) {
	var l []api.Config
	for _, x := range slices.Concat(lengths(), places(), numbers()) {
		c := platform()
		x.apply(&c)
		l = append(l, c)
	}
	for _, n := range indices(api.MaxCells) {
		c := platform()
		c.Regions, c.Blast, c.Lease, c.Bake = n, n, n, n
		c.Zones = []api.Zone{{Region: n}, {Region: n}, {Region: -n}}
		c.Cells = []api.Cell{{Zone: n, Capacity: n}, {Zone: 0, Capacity: n}, {Zone: 2, Capacity: -n}}
		c.Versions = []api.Version{{Low: n, High: n}}
		c.Replicas = []int{n, 0, 2, -1}
		c.Observers = []int{n, -n}
		l = append(l, c)
	}
	l = append(l, api.Config{}, api.Config{Regions: math.MaxInt}, api.Config{Cells: []api.Cell{{}}, Replicas: []int{0}})
	for _, c := range l {
		want := clone(c)
		for _, n := range sets() {
			callAll(c, n)
		}
		if !reflect.DeepEqual(c, want) {
			t.Errorf("a configuration has become %v, not %v", c, want)
		}
	}
}

// clone copies a configuration with all its lists.
func clone(c api.Config) api.Config {
	c.Zones = slices.Clone(c.Zones)
	c.Cells = slices.Clone(c.Cells)
	c.Tenants = slices.Clone(c.Tenants)
	c.Versions = slices.Clone(c.Versions)
	c.Replicas = slices.Clone(c.Replicas)
	c.Observers = slices.Clone(c.Observers)
	return c
}

// begun returns the beginnings of the lists of a configuration, with the rest of each in its spare capacity.
func begun(c api.Config) api.Config {
	c.Zones = c.Zones[:3]
	c.Cells = c.Cells[:2]
	c.Tenants = c.Tenants[:1]
	c.Versions = c.Versions[:2]
	c.Replicas = c.Replicas[:3]
	c.Observers = c.Observers[:1]
	return c
}

func TestR2ArgumentsStayAsTheyAre(t *testing.T) {
	whole := platform()
	c := begun(whole)
	c.Cells[0].Zone = 1
	c.Replicas[0] = 1
	want := clone(whole)
	for _, n := range sets() {
		callAll(c, n)
	}
	callAll(api.Config{}, 0)
	if !reflect.DeepEqual(whole, want) {
		t.Errorf("a configuration has become %v, not %v", whole, want)
	}
}

// The spare capacity holds what would be found, or be wrong, if it were read.
func TestR2SpareCapacityIsNotRead(t *testing.T) {
	whole := platform()
	c := begun(whole)
	whole.Zones[0].Region, whole.Zones[1].Region, whole.Zones[2].Region = 0, 1, 2
	whole.Cells[0].Zone, whole.Cells[1].Zone = 0, 1
	whole.Replicas[0], whole.Replicas[1], whole.Replicas[2] = 0, 1, 2
	whole.Zones[3].Region = -1
	whole.Cells[2] = api.Cell{Zone: -1, Capacity: -1}
	whole.Cells[3] = api.Cell{Zone: 1, Capacity: 9}
	whole.Versions[2].Low = -1
	whole.Replicas[3] = -1
	whole.Observers[1] = -1
	checkValid(t, "bad spare capacity", c, api.OK)
	if topo.ZoneOf(c, 2) != -1 || topo.ZoneOf(c, 3) != -1 || topo.RegionOf(c, 3) != -1 {
		t.Error("ZoneOf or RegionOf reads the spare capacity")
	}
	checkCells(t, "InZone", 1, topo.InZone(c, 1), []int{1})
	checkCells(t, "InRegion", 1, topo.InRegion(c, 1), []int{1})
	checkCells(t, "Alive", 1, topo.Alive(c, 1), []int{1})
	if topo.Capacity(c, 1) != 100 {
		t.Error("Capacity reads the spare capacity")
	}
	if !topo.Majority(c, 1) || topo.Majority(c, 3) {
		t.Error("Majority reads the spare capacity")
	}
	c.Cells = c.Cells[:0]
	checkValid(t, "no cells", c, api.ErrLimit)
}

func TestR2ResultsAreNewMemory(t *testing.T) {
	c := platform()
	want := clone(c)
	for i, call := range []func() []int{
		func() []int { return topo.InZone(c, 0) },
		func() []int { return topo.InRegion(c, 2) },
		func() []int { return topo.Alive(c, 3) },
		func() []int { return topo.Alive(c, 0) },
	} {
		first := call()
		kept := slices.Clone(first)
		second := call()
		spare := second[:cap(second)]
		for k := range spare {
			spare[k] = 77
		}
		if !slices.Equal(first, kept) || !slices.Equal(call(), kept) {
			t.Errorf("results of call %d share memory", i)
		}
	}
	if !reflect.DeepEqual(c, want) {
		t.Error("a result shares memory with the configuration")
	}
}

// The same memory holds another configuration in between.
func TestR3NothingIsRemembered(t *testing.T) {
	c := platform()
	for _, n := range indices(len(c.Cells)) {
		callAll(c, n)
	}
	c.Cells[0] = api.Cell{Zone: 5, Capacity: 11}
	c.Zones[0].Region = 3
	c.Replicas[0] = 0
	checkValid(t, "changed", c, api.OK)
	if topo.ZoneOf(c, 0) != 5 || topo.RegionOf(c, 0) != 3 || topo.RegionOf(c, 1) != 3 {
		t.Error("ZoneOf or RegionOf remembers an earlier call")
	}
	checkCells(t, "InZone", 5, topo.InZone(c, 5), []int{0})
	checkCells(t, "InRegion", 3, topo.InRegion(c, 3), []int{0, 1, 6})
	checkCells(t, "Alive", 8, topo.Alive(c, 8), []int{2, 3, 4, 5})
	if topo.Capacity(c, 3) != 114 || topo.Majority(c, 8) || !topo.Majority(c, 1) {
		t.Error("Capacity or Majority remembers an earlier call")
	}
	c.Cells[0].Capacity = 0
	checkValid(t, "changed again", c, api.ErrArg)
}
