package tenant_test

import (
	"math"
	"math/rand"
	"reflect"
	"slices"
	"testing"

	"cellplane/api"
	"cellplane/tenant"
	"cellplane/topo"
)

// platform returns a configuration in which the cells of a region do not stand side by side, region 3 has no cells, and the tenants are out of order.
func platform() api.Config {
	return api.Config{
		Regions: 4,
		Zones:   []api.Zone{{Region: 2}, {Region: 0}, {Region: 1}, {Region: 0}, {Region: 3}},
		Cells:   []api.Cell{{Zone: 3, Capacity: 70}, {Zone: 0, Capacity: 100}, {Zone: 2, Capacity: 10}, {Zone: 0, Capacity: 30}, {Zone: 1, Capacity: 20}},
		Tenants: []api.Tenant{
			{Load: 30, Shadow: 30, Priority: 1, Lag: -1, Allowed: 1 + 4, Group: 1},
			{Load: 40, Shadow: 10, Priority: 5, Allowed: 15, Noisy: true},
			{Load: 20, Priority: 5, Lag: 3, Allowed: 2, Group: api.MaxTenants},
			{Load: 40, Shadow: 39, Priority: 5, Lag: api.MaxLag, Allowed: 2 + 4, Group: 1},
			{Load: 1, Shadow: 1, Priority: 9, Allowed: 8},
		},
		Versions:  []api.Version{{Low: 0, High: 1}, {Low: 1, High: 2}},
		Replicas:  []int{3, 0, 2},
		Observers: []int{0, 1},
		Blast:     2, Lease: 10, Bake: 5,
	}
}

// bare returns a platform without tenants, with any lists and some regions that have no cells.
func bare(r *rand.Rand) api.Config {
	c := platform()
	c.Regions = 1 + r.Intn(api.MaxRegions)
	c.Zones = make([]api.Zone, 1+r.Intn(api.MaxZones))
	c.Cells = make([]api.Cell, 1+r.Intn(api.MaxCells))
	for i := range c.Zones {
		c.Zones[i].Region = r.Intn(c.Regions)
	}
	for i := range c.Cells {
		c.Cells[i] = api.Cell{Zone: r.Intn(len(c.Zones)), Capacity: 1 + r.Intn(api.MaxCapacity)}
	}
	c.Tenants, c.Replicas, c.Observers = nil, []int{0}, []int{0}
	return c
}

// random returns a valid configuration; where its tenants are alike, many of them have the same load and priority.
func random(r *rand.Rand) api.Config {
	c := bare(r)
	c.Tenants = make([]api.Tenant, r.Intn(api.MaxTenants+1))
	loads, priorities := api.MaxLoad, api.MaxPriority+1
	if alike := r.Intn(2) == 0; alike {
		loads, priorities = 3, 3
	}
	for i := range c.Tenants {
		load := 1 + r.Intn(loads)
		c.Tenants[i] = api.Tenant{
			Load:     load,
			Shadow:   r.Intn(load + 1),
			Priority: r.Intn(priorities),
			Lag:      r.Intn(api.MaxLag+2) - 1,
			Allowed:  1 + r.Intn(power(c.Regions)-1),
			Group:    r.Intn(api.MaxTenants + 1),
			Noisy:    r.Intn(2) == 0,
		}
	}
	return c
}

// platforms returns valid configurations.
func platforms() []api.Config {
	r := rand.New(rand.NewSource(5))
	l := []api.Config{platform(), greatest()}
	for range 400 {
		l = append(l, random(r))
	}
	return l
}

// greatest returns a valid configuration with as many tenants as there may be, which declare as much as they may.
func greatest() api.Config {
	c := platform()
	c.Tenants = slices.Repeat([]api.Tenant{{
		Load: api.MaxLoad, Shadow: api.MaxLoad, Priority: api.MaxPriority, Lag: api.MaxLag,
		Allowed: 1<<api.MaxRegions - 1, Group: api.MaxTenants, Noisy: true,
	}}, api.MaxTenants)
	return c
}

// power returns 2^n.
func power(n int) int {
	p := 1
	for range n {
		p *= 2
	}
	return p
}

// wide are integers far from every index.
var wide = []int{math.MinInt, math.MinInt + 1, -1 << 32, -65, -64, -2, -1, 64, 65, 1 << 32, math.MaxInt - 1, math.MaxInt}

// indices returns integers that denote all of n elements, and some that denote none.
func indices(n int) []int {
	l := slices.Clone(wide)
	for i := range n + 3 {
		l = append(l, i)
	}
	return l
}

// field is a field of a tenant and its range in platform().
type field struct {
	name      string
	of        func(t *api.Tenant) *int
	low, high int
}

// fields returns all fields but Shadow, whose range depends on the load.
func fields() []field {
	return []field{
		{"Load", func(t *api.Tenant) *int { return &t.Load }, 1, 65536},
		{"Priority", func(t *api.Tenant) *int { return &t.Priority }, 0, 9},
		{"Lag", func(t *api.Tenant) *int { return &t.Lag }, -1, 1000},
		{"Allowed", func(t *api.Tenant) *int { return &t.Allowed }, 1, 15},
		{"Group", func(t *api.Tenant) *int { return &t.Group }, 0, 32},
	}
}

// outside returns integers that are less than low or greater than high.
func outside(low, high int) []int {
	return []int{low - 1, low - 2, high + 1, high + 2, math.MinInt, math.MaxInt}
}

// change is a change of a platform, with a name for reports.
type change struct {
	name  string
	apply func(c *api.Config)
}

// badTenants returns changes after which one tenant of a platform declares what it may not.
func badTenants() []change {
	var l []change
	for i, x := range platform().Tenants {
		for _, f := range fields() {
			for _, n := range outside(f.low, f.high) {
				l = append(l, change{f.name, func(c *api.Config) { *f.of(&c.Tenants[i]) = n }})
			}
		}
		for _, n := range outside(0, x.Load) {
			l = append(l, change{"Shadow", func(c *api.Config) { c.Tenants[i].Shadow = n }})
		}
		l = append(l, change{"a tenant that is zero", func(c *api.Config) { c.Tenants[i] = api.Tenant{} }})
	}
	return l
}

// exceeded returns changes for which topo.Valid returns ErrLimit.
func exceeded() []change {
	return []change{
		{"no regions", func(c *api.Config) { c.Regions = 0 }},
		{"negative regions", func(c *api.Config) { c.Regions = math.MinInt }},
		{"too many regions", func(c *api.Config) { c.Regions = api.MaxRegions + 1 }},
		{"very many regions", func(c *api.Config) { c.Regions = 64 }},
		{"no zones", func(c *api.Config) { c.Zones = nil }},
		{"too many zones", func(c *api.Config) { c.Zones = make([]api.Zone, api.MaxZones+1) }},
		{"no cells", func(c *api.Config) { c.Cells = nil }},
		{"too many cells", func(c *api.Config) { c.Cells = slices.Repeat(c.Cells[:1], api.MaxCells+1) }},
		{"no versions", func(c *api.Config) { c.Versions = nil }},
		{"too many versions", func(c *api.Config) { c.Versions = slices.Repeat(c.Versions[:1], api.MaxVersions+1) }},
		{"no replicas", func(c *api.Config) { c.Replicas = nil }},
		{"too many replicas", func(c *api.Config) { c.Replicas = slices.Repeat(c.Replicas[:1], api.MaxReplicas+2) }},
		{"no observers", func(c *api.Config) { c.Observers = nil }},
		{"too many observers", func(c *api.Config) { c.Observers = slices.Repeat(c.Observers[:1], api.MaxObservers+1) }},
		{"too many tenants", func(c *api.Config) { c.Tenants = slices.Repeat(c.Tenants[:1], api.MaxTenants+1) }},
	}
}

// misplaced returns changes for which topo.Valid returns ErrArg.
func misplaced() []change {
	return []change{
		{"two replicas", func(c *api.Config) { c.Replicas = c.Replicas[:2] }},
		{"region of a zone", func(c *api.Config) { c.Zones[0].Region = 4 }},
		{"negative region of a zone", func(c *api.Config) { c.Zones[1].Region = -1 }},
		{"zone of a cell", func(c *api.Config) { c.Cells[1].Zone = 5 }},
		{"zone of a replica", func(c *api.Config) { c.Replicas[0] = -1 }},
		{"zone of an observer", func(c *api.Config) { c.Observers[1] = 5 }},
		{"capacity", func(c *api.Config) { c.Cells[4].Capacity = 0 }},
		{"version", func(c *api.Config) { c.Versions[1] = api.Version{Low: 2, High: 1} }},
		{"Blast", func(c *api.Config) { c.Blast = 0 }},
		{"Lease", func(c *api.Config) { c.Lease = 0 }},
		{"Bake", func(c *api.Config) { c.Bake = -1 }},
	}
}

// checkValid reports a result of Valid that is not the wanted one.
func checkValid(t *testing.T, name string, c api.Config, want api.Errno) {
	t.Helper()
	if e := tenant.Valid(c); e != want {
		t.Errorf("%s: Valid returns %d, not %d, for %v", name, e, want, c)
	}
}

func TestP51ValidConfigurations(t *testing.T) {
	for _, c := range platforms() {
		checkValid(t, "valid", c, api.OK)
	}
	c := platform()
	c.Tenants = nil
	checkValid(t, "no tenants", c, api.OK)
}

func TestP51EndsOfRanges(t *testing.T) {
	for i := range platform().Tenants {
		for _, f := range fields() {
			for _, n := range []int{f.low, f.high} {
				c := platform()
				c.Tenants[i].Shadow = 0
				*f.of(&c.Tenants[i]) = n
				checkValid(t, f.name, c, api.OK)
			}
		}
	}
}

func TestP51OutsideOfRanges(t *testing.T) {
	for _, x := range badTenants() {
		c := platform()
		x.apply(&c)
		checkValid(t, x.name, c, api.ErrArg)
	}
}

// The greatest shadow is the load of the tenant itself, not a limit or the load of another one.
func TestP51ShadowIsAtMostTheLoad(t *testing.T) {
	for i := range platform().Tenants {
		for _, load := range []int{1, 2, 35, 50, api.MaxLoad - 1, api.MaxLoad} {
			c := platform()
			c.Tenants[i].Load = load
			for _, shadow := range []int{0, 1, load - 1, load} {
				c.Tenants[i].Shadow = shadow
				checkValid(t, "a shadow that fits", c, api.OK)
			}
			for _, shadow := range outside(0, load) {
				c.Tenants[i].Shadow = shadow
				checkValid(t, "a shadow that does not fit", c, api.ErrArg)
			}
		}
	}
}

// Every set of regions that exist is allowed but the empty one, and no other.
func TestP51AllowedOfAnyNumberOfRegions(t *testing.T) {
	for regions := 1; regions <= api.MaxRegions; regions++ {
		c := platform()
		c.Regions = regions
		c.Zones = []api.Zone{{Region: 0}}
		c.Cells = []api.Cell{{Zone: 0, Capacity: 1}}
		c.Replicas, c.Observers = []int{0}, []int{0}
		for allowed := -40; allowed <= 40; allowed++ {
			c.Tenants = []api.Tenant{{Load: 1, Allowed: 1}, {Load: 1, Allowed: allowed}, {Load: 1, Allowed: 1}}
			want := api.ErrArg
			if allowed > 0 && allowed < power(regions) {
				want = api.OK
			}
			checkValid(t, "Allowed", c, want)
		}
	}
}

func TestP51ErrorsOfTopoComeFirst(t *testing.T) {
	for _, x := range exceeded() {
		c := platform()
		x.apply(&c)
		checkValid(t, x.name, c, api.ErrLimit)
		for _, bad := range badTenants() {
			c := platform()
			bad.apply(&c)
			x.apply(&c)
			checkValid(t, bad.name+", "+x.name, c, api.ErrLimit)
		}
	}
	for _, x := range misplaced() {
		c := platform()
		x.apply(&c)
		checkValid(t, x.name, c, api.ErrArg)
		c.Tenants = nil
		checkValid(t, x.name+", no tenants", c, api.ErrArg)
	}
	many := platform()
	many.Tenants = make([]api.Tenant, api.MaxTenants+1)
	checkValid(t, "too many tenants that are zero", many, api.ErrLimit)
}

// checkIndices reports cells or tenants that are not the wanted ones.
func checkIndices(t *testing.T, name string, n int, got, want []int) {
	t.Helper()
	if !slices.Equal(got, want) {
		t.Errorf("%s of %d is %v, not %v", name, n, got, want)
	}
}

func TestP52MayOfGivenTenants(t *testing.T) {
	c := platform()
	for i, row := range [][]bool{
		{true, true, false, true, true},
		{true, true, true, true, true},
		{false, false, true, false, false},
		{false, true, true, true, false},
		{false, false, false, false, false},
	} {
		for cell, want := range row {
			if got := tenant.May(c, i, cell); got != want {
				t.Errorf("May(%d, %d) is %v", i, cell, got)
			}
		}
	}
	for _, n := range append(wide, len(c.Tenants), len(c.Cells), len(c.Tenants)+1) {
		if tenant.May(c, n, 0) || tenant.May(c, 1, n) || tenant.May(c, n, n) {
			t.Errorf("May holds for a tenant or a cell %d that does not exist", n)
		}
	}
}

func TestP52ApartOfGivenCells(t *testing.T) {
	c := platform()
	regions := []int{0, 2, 1, 2, 0}
	for a := range c.Cells {
		for b := range c.Cells {
			if got := tenant.Apart(c, a, b); got != (regions[a] != regions[b]) {
				t.Errorf("Apart(%d, %d) is %v", a, b, got)
			}
		}
		for _, n := range append(wide, len(c.Cells), len(c.Cells)+1) {
			if tenant.Apart(c, a, n) || tenant.Apart(c, n, a) || tenant.Apart(c, n, n) || tenant.Apart(c, n, -n) {
				t.Errorf("Apart holds for %d and a cell %d that does not exist", a, n)
			}
		}
	}
}

func TestP52HomesOfGivenTenants(t *testing.T) {
	c := platform()
	for i, want := range [][]int{{0, 1, 3, 4}, {0, 1, 2, 3, 4}, {2}, {1, 2, 3}, nil, nil, nil} {
		checkIndices(t, "Homes", i, tenant.Homes(c, i), want)
	}
	for _, n := range wide {
		checkIndices(t, "Homes", n, tenant.Homes(c, n), nil)
	}
}

// A home need not be one that the tenant may have.
func TestP52StandbysOfGivenHomes(t *testing.T) {
	c := platform()
	for home, want := range [][]int{{1, 3}, {0, 4}, {0, 1, 3, 4}, {0, 4}, {1, 3}, nil, nil} {
		checkIndices(t, "Standbys of tenant 0", home, tenant.Standbys(c, 0, home), want)
	}
	for home, want := range [][]int{{1, 2, 3}, {0, 2, 4}, {0, 1, 3, 4}, {0, 2, 4}, {1, 2, 3}, nil, nil} {
		checkIndices(t, "Standbys of tenant 1", home, tenant.Standbys(c, 1, home), want)
	}
	for home, want := range [][]int{{2}, {2}, nil, {2}, {2}, nil, nil} {
		checkIndices(t, "Standbys of tenant 2", home, tenant.Standbys(c, 2, home), want)
	}
	for home := range 7 {
		checkIndices(t, "Standbys of tenant 4", home, tenant.Standbys(c, 4, home), nil)
		checkIndices(t, "Standbys of tenant 5", home, tenant.Standbys(c, 5, home), nil)
	}
	for _, n := range wide {
		checkIndices(t, "Standbys of a home", n, tenant.Standbys(c, 1, n), nil)
		checkIndices(t, "Standbys of a tenant", n, tenant.Standbys(c, n, 0), nil)
	}
}

// regionOf returns the region of a cell, and whether there is one.
func regionOf(c api.Config, cell int) (int, bool) {
	if cell < 0 || cell >= len(c.Cells) {
		return 0, false
	}
	return c.Zones[c.Cells[cell].Zone].Region, true
}

// may is May by its definition, by division.
func may(c api.Config, i, cell int) bool {
	region, ok := regionOf(c, cell)
	return ok && i >= 0 && i < len(c.Tenants) && c.Tenants[i].Allowed/power(region)%2 == 1
}

// apart is Apart by its definition.
func apart(c api.Config, a, b int) bool {
	first, ok := regionOf(c, a)
	second, also := regionOf(c, b)
	return ok && also && first != second
}

func TestP52FollowsItsDefinitions(t *testing.T) {
	for _, c := range platforms() {
		for _, i := range indices(len(c.Tenants)) {
			var homes []int
			for _, cell := range indices(len(c.Cells)) {
				want := may(c, i, cell)
				if tenant.May(c, i, cell) != want {
					t.Fatalf("May(%d, %d) is not %v in %v", i, cell, want, c)
				}
				if want {
					homes = append(homes, cell)
				}
			}
			checkIndices(t, "Homes", i, tenant.Homes(c, i), homes)
			for _, home := range indices(len(c.Cells)) {
				want := slices.DeleteFunc(slices.Clone(homes), func(cell int) bool { return !apart(c, cell, home) })
				checkIndices(t, "Standbys", home, tenant.Standbys(c, i, home), want)
			}
		}
	}
}

func TestP52ApartFollowsItsDefinition(t *testing.T) {
	for _, c := range platforms() {
		for _, a := range indices(len(c.Cells)) {
			for _, b := range indices(len(c.Cells)) {
				if got := tenant.Apart(c, a, b); got != apart(c, a, b) {
					t.Fatalf("Apart(%d, %d) is %v in %v", a, b, got, c)
				}
			}
		}
	}
}

func TestP53TotalOfGivenTenants(t *testing.T) {
	c := platform()
	if got := tenant.Total(c); got != 131 {
		t.Errorf("Total is %d, not 131", got)
	}
	c.Tenants = c.Tenants[:1]
	if got := tenant.Total(c); got != 30 {
		t.Errorf("Total of one tenant is %d, not 30", got)
	}
	c.Tenants = nil
	if got := tenant.Total(c); got != 0 {
		t.Errorf("Total of no tenant is %d", got)
	}
	if got := tenant.Total(greatest()); got != 1<<21 {
		t.Errorf("Total of the greatest loads is %d", got)
	}
}

func TestP53TotalFollowsItsDefinition(t *testing.T) {
	for _, c := range platforms() {
		want := 0
		for i := range c.Tenants {
			want += c.Tenants[i].Load
		}
		if got := tenant.Total(c); got != want {
			t.Errorf("Total is %d, not %d", got, want)
		}
	}
}

func TestP53OrderOfGivenTenants(t *testing.T) {
	checkIndices(t, "Order", 0, tenant.Order(platform()), []int{4, 1, 3, 2, 0})
	for i, x := range []struct {
		tenants []api.Tenant
		want    []int
	}{
		{nil, nil},
		{[]api.Tenant{{Load: 7}}, []int{0}},
		{[]api.Tenant{{Load: 9, Priority: 1}, {Load: 1, Priority: 5}}, []int{1, 0}},
		{[]api.Tenant{{Load: 1, Priority: 5}, {Load: 9, Priority: 1}}, []int{0, 1}},
		{[]api.Tenant{{Load: 1, Priority: 3}, {Load: 9, Priority: 3}}, []int{1, 0}},
		{[]api.Tenant{{Load: 9, Priority: 3}, {Load: 1, Priority: 3}}, []int{0, 1}},
		{[]api.Tenant{{Load: 4, Priority: 3}, {Load: 4, Priority: 3}, {Load: 4, Priority: 3}}, []int{0, 1, 2}},
		{[]api.Tenant{{Load: 2}, {Load: 1, Priority: 9}, {Load: 3}, {Load: 2}, {Load: 1, Priority: 9}, {Load: api.MaxLoad}}, []int{1, 4, 5, 2, 0, 3}},
	} {
		c := platform()
		for k := range x.tenants {
			x.tenants[k].Allowed = 1
		}
		c.Tenants = x.tenants
		checkIndices(t, "Order of case", i, tenant.Order(c), x.want)
	}
}

// Nothing but priority, load and index decides.
func TestP53OrderOfEqualTenants(t *testing.T) {
	all := make([]int, api.MaxTenants)
	for i := range all {
		all[i] = i
	}
	checkIndices(t, "Order of the greatest platform", 0, tenant.Order(greatest()), all)
	r := rand.New(rand.NewSource(53))
	for range 50 {
		c := greatest()
		for i := range c.Tenants {
			x := &c.Tenants[i]
			x.Shadow, x.Lag, x.Allowed, x.Group, x.Noisy = r.Intn(x.Load), r.Intn(9)-1, 1+r.Intn(15), r.Intn(9), r.Intn(2) == 0
		}
		checkIndices(t, "Order of equal loads and priorities", 0, tenant.Order(c), all)
	}
}

// precedes reports whether tenant a stands before tenant b.
func precedes(c api.Config, a, b int) bool {
	x, y := c.Tenants[a], c.Tenants[b]
	switch {
	case x.Priority != y.Priority:
		return x.Priority > y.Priority
	case x.Load != y.Load:
		return x.Load > y.Load
	}
	return a < b
}

// The place of a tenant is the number of those that stand before it.
func TestP53OrderFollowsItsDefinition(t *testing.T) {
	for _, c := range platforms() {
		want := make([]int, len(c.Tenants))
		for b := range c.Tenants {
			before := 0
			for a := range c.Tenants {
				if precedes(c, a, b) {
					before++
				}
			}
			want[before] = b
		}
		checkIndices(t, "Order", len(c.Tenants), tenant.Order(c), want)
	}
}

func TestConsequenceEveryTenantHasAllowedRegions(t *testing.T) {
	for _, c := range platforms() {
		for i, x := range c.Tenants {
			if !slices.ContainsFunc([]int{0, 1, 2, 3}, func(region int) bool { return x.Allowed/power(region)%2 == 1 }) {
				t.Errorf("tenant %d has no allowed region in %v", i, c)
			}
		}
	}
}

func TestConsequenceAllowedRegionsMayHaveNoCells(t *testing.T) {
	c := platform()
	c.Tenants = []api.Tenant{{Load: 1, Allowed: 8}, {Load: 1, Allowed: 1 + 8}}
	checkValid(t, "a region without cells", c, api.OK)
	checkIndices(t, "Homes", 0, tenant.Homes(c, 0), nil)
	checkIndices(t, "Homes", 1, tenant.Homes(c, 1), []int{0, 4})
	checkIndices(t, "Standbys", 0, tenant.Standbys(c, 1, 0), nil)
}

func TestConsequenceOrderIsAPermutation(t *testing.T) {
	for _, c := range platforms() {
		order := tenant.Order(c)
		slices.Sort(order)
		for i, n := range order {
			if n != i {
				t.Fatalf("Order has %v, sorted, of %d tenants", order, len(c.Tenants))
			}
		}
		if len(order) != len(c.Tenants) {
			t.Fatalf("Order has %d of %d tenants", len(order), len(c.Tenants))
		}
	}
}

func TestExamples(t *testing.T) {
	for _, c := range platforms() {
		if tenant.Apart(c, 0, 0) {
			t.Error("Apart(c, 0, 0) holds")
		}
	}
	c := platform()
	c.Tenants = []api.Tenant{{Load: 1, Priority: 1, Allowed: 1}, {Load: 1, Priority: 5, Allowed: 1}}
	checkIndices(t, "Order of two tenants of priorities 1 and", 5, tenant.Order(c), []int{1, 0})
}

// callAll calls every function of the package.
func callAll(c api.Config, a, b int) {
	tenant.Valid(c)
	tenant.May(c, a, b)
	tenant.Apart(c, a, b)
	tenant.Homes(c, a)
	tenant.Standbys(c, a, b)
	tenant.Total(c)
	tenant.Order(c)
}

// clone copies a configuration with all its lists.
func clone(c api.Config) api.Config {
	c.Zones = slices.Clone(c.Zones)
	c.Cells = slices.Clone(c.Cells)
	c.Tenants = slices.Clone(c.Tenants)
	c.Versions = slices.Clone(c.Versions)
	c.Replicas = slices.Clone(c.Replicas)
	c.Observers = slices.Clone(c.Observers)
	return c
}

// Configurations that are not valid must do no harm either, and stay as they are.
func TestR1InvalidConfigurations(t *testing.T) {
	l := []api.Config{{}, {Regions: math.MaxInt}, {Cells: []api.Cell{{}}, Tenants: make([]api.Tenant, 2)}}
	for _, x := range slices.Concat(badTenants(), exceeded(), misplaced()) {
		c := platform()
		x.apply(&c)
		l = append(l, c)
	}
	for _, n := range indices(api.MaxCells) {
		l = append(l, api.Config{
			Regions: n,
			Zones:   []api.Zone{{Region: n}, {Region: -n}, {Region: 0}},
			Cells:   []api.Cell{{Zone: 0}, {Zone: 1}, {Zone: n}, {Zone: 2}},
			Tenants: []api.Tenant{{Load: n, Shadow: n, Priority: n, Lag: n, Allowed: n, Group: n}, {Load: -n, Priority: -n, Allowed: -n}, {Allowed: -1}},
		})
	}
	for _, c := range l {
		want := clone(c)
		for _, a := range indices(3) {
			for _, b := range indices(4) {
				callAll(c, a, b)
			}
		}
		if !reflect.DeepEqual(c, want) {
			t.Errorf("a configuration has become %v, not %v", c, want)
		}
	}
}

func TestR2ArgumentsStayAsTheyAre(t *testing.T) {
	for _, whole := range platforms()[:60] {
		want := clone(whole)
		part := whole
		part.Tenants = whole.Tenants[:len(whole.Tenants)/2]
		part.Cells = whole.Cells[:1]
		for _, c := range []api.Config{whole, part} {
			for _, a := range indices(len(c.Tenants)) {
				for _, b := range indices(len(c.Cells)) {
					callAll(c, a, b)
				}
			}
		}
		if !reflect.DeepEqual(whole, want) {
			t.Fatalf("a configuration has become %v, not %v", whole, want)
		}
	}
}

// The spare capacity holds what would be found, or be wrong, if it were read.
func TestR2SpareCapacityIsNotRead(t *testing.T) {
	whole := platform()
	c := whole
	c.Tenants = c.Tenants[:2]
	c.Cells = c.Cells[:3]
	whole.Tenants[2] = api.Tenant{Load: 0, Priority: 9, Allowed: 15}
	whole.Tenants[3] = api.Tenant{Load: 50, Priority: 9, Allowed: 15}
	checkValid(t, "bad spare capacity", c, api.OK)
	if tenant.May(c, 3, 0) || tenant.May(c, 1, 3) || tenant.Apart(c, 0, 3) || tenant.Apart(c, 3, 0) {
		t.Error("May or Apart reads the spare capacity")
	}
	checkIndices(t, "Homes", 1, tenant.Homes(c, 1), []int{0, 1, 2})
	checkIndices(t, "Homes", 3, tenant.Homes(c, 3), nil)
	checkIndices(t, "Standbys", 0, tenant.Standbys(c, 1, 0), []int{1, 2})
	checkIndices(t, "Standbys", 3, tenant.Standbys(c, 1, 3), nil)
	if tenant.Total(c) != 70 {
		t.Error("Total reads the spare capacity")
	}
	checkIndices(t, "Order", 0, tenant.Order(c), []int{1, 0})
}

func TestR2ResultsAreNewMemory(t *testing.T) {
	c := platform()
	want := clone(c)
	for i, call := range []func() []int{
		func() []int { return tenant.Homes(c, 1) },
		func() []int { return tenant.Homes(c, 3) },
		func() []int { return tenant.Standbys(c, 1, 0) },
		func() []int { return tenant.Standbys(c, 0, 2) },
		func() []int { return tenant.Order(c) },
	} {
		first := call()
		kept := slices.Clone(first)
		second := call()
		spare := second[:cap(second)]
		for k := range spare {
			spare[k] = 77
		}
		if !slices.Equal(first, kept) || !slices.Equal(call(), kept) {
			t.Errorf("results of call %d share memory", i)
		}
	}
	if !reflect.DeepEqual(c, want) {
		t.Error("a result shares memory with the configuration")
	}
}

// The same memory holds another configuration in between.
func TestR3NothingIsRemembered(t *testing.T) {
	c := platform()
	for _, n := range indices(len(c.Cells)) {
		callAll(c, n, n)
	}
	c.Tenants[0] = api.Tenant{Load: 60, Priority: 6, Allowed: 2 + 8}
	c.Cells[0].Zone = 4
	c.Zones[1].Region = 1
	checkValid(t, "changed", c, api.OK)
	if tenant.Apart(c, 2, 4) || !tenant.Apart(c, 0, 4) || !tenant.May(c, 0, 0) || tenant.May(c, 0, 1) {
		t.Error("May or Apart remembers an earlier call")
	}
	checkIndices(t, "Homes", 0, tenant.Homes(c, 0), []int{0, 2, 4})
	checkIndices(t, "Standbys", 0, tenant.Standbys(c, 0, 0), []int{2, 4})
	if tenant.Total(c) != 161 {
		t.Error("Total remembers an earlier call")
	}
	checkIndices(t, "Order", 0, tenant.Order(c), []int{4, 0, 1, 3, 2})
	c.Tenants[0].Load = 0
	checkValid(t, "changed again", c, api.ErrArg)
	c.Tenants[0].Load = 1
	c.Regions = 5
	if got, want := tenant.Valid(c), topo.Valid(c); got != want || got != api.ErrLimit {
		t.Errorf("Valid returns %d, topo.Valid %d", got, want)
	}
}
