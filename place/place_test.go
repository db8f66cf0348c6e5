package place_test

import (
	"slices"
	"testing"

	"carousel/api"
	"carousel/chain"
	"carousel/counter"
	"carousel/dict"
	"carousel/place"
	"carousel/queue"
)

// kinds are all four.
func kinds() []int {
	return []int{api.KindCounter, api.KindQueue, api.KindDict, api.KindChain}
}

// sizeOf is how many cells a region that may be has, by the words of chapters 15 to 18.
func sizeOf(r api.Region) int {
	switch r.Kind {
	case api.KindCounter:
		return r.Cap
	case api.KindQueue:
		return r.Cap + 2
	case api.KindDict:
		return 3*r.Cap + 1
	}
	return 2*r.Cap + 3
}

// example is the chapter's.
func example() api.Config {
	return with(4, api.Region{Kind: api.KindCounter, Cap: 2}, api.Region{Kind: api.KindQueue, Cap: 3},
		api.Region{Kind: api.KindDict, Cap: 2}, api.Region{Kind: api.KindChain, Cap: 1})
}

// with is a configuration that may be, of so many plain cells and of regions.
func with(raw int, regions ...api.Region) api.Config {
	return api.Config{Raw: raw, Ring: 2, Writes: 8, Stamps: 9, Tries: 3, Regions: regions}
}

// greatest is the configuration with the most of everything.
func greatest() api.Config {
	c := api.Config{Raw: 64, Ring: 16, Writes: 24, Stamps: 1 << 40, Multi: true, Tries: 255}
	for range 8 {
		c.Regions = append(c.Regions, api.Region{Kind: api.KindDict, Cap: 16})
	}
	return c
}

// strewn gives numbers that are spread out, the same ones each time.
type strewn uint64

func (s *strewn) below(n int) int {
	*s = *s*6364136223846793005 + 1442695040888963407
	return int(uint64(*s>>33) % uint64(n))
}

// region is any one that may be.
func (s *strewn) region() api.Region {
	return api.Region{Kind: 1 + s.below(4), Cap: s.below(17)}
}

// config is any one that may be.
func (s *strewn) config() api.Config {
	c := api.Config{
		Raw: 1 + s.below(64), Ring: 1 + s.below(16), Writes: 1 + s.below(24), Stamps: 1 + int64(s.below(1<<30))*1024,
		Multi: s.below(2) == 0, Tries: 1 + s.below(255),
	}
	for range s.below(9) {
		c.Regions = append(c.Regions, s.region())
	}
	return c
}

// baseIs: there is such a region, and it begins there.
func baseIs(t *testing.T, c api.Config, region, want int) {
	t.Helper()
	if got, why := place.Base(c, region); got != want || why != api.OK {
		t.Errorf("Base(%+v, %d): %d, error %d, not %d", c, region, got, why, want)
	}
}

// noBase: there is no such region of a configuration that may be.
func noBase(t *testing.T, c api.Config, region int) {
	t.Helper()
	if got, why := place.Base(c, region); got != 0 || why != api.ErrArg {
		t.Errorf("Base(%+v, %d): %d, error %d", c, region, got, why)
	}
}

// sizeIs: a region may be, and has so many cells.
func sizeIs(t *testing.T, r api.Region, want int) {
	t.Helper()
	if got, why := place.Size(r); got != want || why != api.OK {
		t.Errorf("Size(%+v): %d, error %d, not %d", r, got, why, want)
	}
}

// lies: a configuration may be; its plain cells come first, then its regions, one behind the other, and that are all cells.
func lies(t *testing.T, c api.Config) {
	t.Helper()
	if why := place.Check(c); why != api.OK {
		t.Errorf("Check(%+v): error %d", c, why)
	}
	cell := c.Raw
	for i, r := range c.Regions {
		sizeIs(t, r, sizeOf(r))
		baseIs(t, c, i, cell)
		cell += sizeOf(r)
	}
	got, why := place.Cells(c)
	if got != cell || why != api.OK {
		t.Errorf("Cells(%+v): %d, error %d, not %d", c, got, why, cell)
	}
	if got > api.MaxCells {
		t.Errorf("Cells(%+v): %d, more than a memory has", c, got)
	}
	for _, region := range []int{-1, len(c.Regions), len(c.Regions) + 1, 8, 9} {
		if region < 0 || region >= len(c.Regions) {
			noBase(t, c, region)
		}
	}
}

// P19.1 to P19.4: the chapter's examples.
func TestExamples(t *testing.T) {
	c := example()
	for region, want := range []int{4, 6, 11, 18} {
		baseIs(t, c, region, want)
	}
	if got, why := place.Cells(c); got != 23 || why != api.OK {
		t.Errorf("Cells: %d, error %d", got, why)
	}
	noBase(t, c, 4)
	noBase(t, c, -1)
	sizeIs(t, api.Region{Kind: api.KindChain, Cap: 16}, 35)
	noSize(t, api.Region{Kind: 5})
	if why := place.Check(c); why != api.OK {
		t.Errorf("Check: error %d", why)
	}
	c.Tries = 0
	refused(t, c)
}

// P19.2: each kind with each capacity, as its own layer says, and by numbers.
func TestSize(t *testing.T) {
	for most := 0; most <= 16; most++ {
		sizeIs(t, api.Region{Kind: api.KindCounter, Cap: most}, counter.Size(most))
		sizeIs(t, api.Region{Kind: api.KindQueue, Cap: most}, queue.Size(most))
		sizeIs(t, api.Region{Kind: api.KindDict, Cap: most}, dict.Size(most))
		sizeIs(t, api.Region{Kind: api.KindChain, Cap: most}, chain.Size(most))
		for _, kind := range kinds() {
			r := api.Region{Kind: kind, Cap: most}
			sizeIs(t, r, sizeOf(r))
		}
	}
	for i, kind := range kinds() {
		sizeIs(t, api.Region{Kind: kind}, []int{0, 2, 1, 3}[i])
		sizeIs(t, api.Region{Kind: kind, Cap: 1}, []int{1, 3, 4, 5}[i])
		sizeIs(t, api.Region{Kind: kind, Cap: 16}, []int{16, 18, 49, 35}[i])
	}
}

// P19.3, P19.4: no region: there are the plain cells alone, however many, and no list is as good as an empty one.
func TestNoRegion(t *testing.T) {
	for raw := 1; raw <= 64; raw++ {
		for _, regions := range [][]api.Region{nil, {}, make([]api.Region, 0, 8)} {
			c := with(raw, regions...)
			c.Regions = regions
			lies(t, c)
			if got, why := place.Cells(c); got != raw || why != api.OK {
				t.Errorf("Cells of %d plain ones: %d, error %d", raw, got, why)
			}
			noBase(t, c, 0)
		}
	}
}

// P19.3, P19.4: one region of each kind and capacity, behind any number of plain cells.
func TestOneRegion(t *testing.T) {
	for raw := 1; raw <= 64; raw++ {
		for _, kind := range kinds() {
			for most := 0; most <= 16; most++ {
				c := with(raw, api.Region{Kind: kind, Cap: most})
				lies(t, c)
				baseIs(t, c, 0, raw)
				noBase(t, c, 1)
			}
		}
	}
}

// P19.3, P19.4: one to eight regions of one kind and capacity: all have the same number of cells.
func TestRegionsOfOneKind(t *testing.T) {
	for _, kind := range kinds() {
		for most := 0; most <= 16; most++ {
			r := api.Region{Kind: kind, Cap: most}
			for count := 1; count <= 8; count++ {
				c := with(5, slices.Repeat([]api.Region{r}, count)...)
				lies(t, c)
				for i := range count {
					baseIs(t, c, i, 5+i*sizeOf(r))
				}
				noBase(t, c, count)
			}
		}
	}
}

// P19.3: regions lie in their own order, not in that of their kinds: all orders of the four.
func TestRegionsInTheirOrder(t *testing.T) {
	for a := range 4 {
		for b := range 4 {
			for d := range 4 {
				for e := range 4 {
					var regions []api.Region
					for i, kind := range []int{a, b, d, e} {
						regions = append(regions, api.Region{Kind: 1 + kind, Cap: []int{3, 0, 16, 5}[i]})
					}
					lies(t, with(7, regions...))
				}
			}
		}
	}
	c := with(1, api.Region{Kind: api.KindChain, Cap: 2}, api.Region{Kind: api.KindCounter, Cap: 5}, api.Region{Kind: api.KindQueue, Cap: 1}, api.Region{Kind: api.KindDict, Cap: 3})
	for region, want := range []int{1, 8, 13, 16} {
		baseIs(t, c, region, want)
	}
	if got, why := place.Cells(c); got != 26 || why != api.OK {
		t.Errorf("Cells: %d, error %d", got, why)
	}
}

// P19.3, P19.4: regions of the capacity 0: counters have no cell then, so what is behind them begins where they do; the others have some.
func TestRegionsWithoutRoom(t *testing.T) {
	counters := with(3, slices.Repeat([]api.Region{{Kind: api.KindCounter}}, 8)...)
	lies(t, counters)
	for region := range 8 {
		baseIs(t, counters, region, 3)
	}
	if got, why := place.Cells(counters); got != 3 || why != api.OK {
		t.Errorf("Cells: %d, error %d", got, why)
	}
	c := with(64, api.Region{Kind: api.KindCounter}, api.Region{Kind: api.KindQueue}, api.Region{Kind: api.KindCounter}, api.Region{Kind: api.KindDict},
		api.Region{Kind: api.KindChain}, api.Region{Kind: api.KindCounter}, api.Region{Kind: api.KindChain}, api.Region{Kind: api.KindCounter})
	lies(t, c)
	for region, want := range []int{64, 64, 66, 66, 67, 70, 70, 73} {
		baseIs(t, c, region, want)
	}
	if got, why := place.Cells(c); got != 73 || why != api.OK {
		t.Errorf("Cells: %d, error %d", got, why)
	}
}

// P19.4: the greatest configuration, whose cells a memory still has, and the least one.
func TestGreatestAndLeast(t *testing.T) {
	c := greatest()
	lies(t, c)
	baseIs(t, c, 7, 407)
	noBase(t, c, 8)
	if got, why := place.Cells(c); got != 456 || why != api.OK {
		t.Errorf("Cells of the greatest: %d, error %d", got, why)
	}
	least := api.Config{Raw: 1, Ring: 1, Writes: 1, Stamps: 1, Tries: 1}
	lies(t, least)
	if got, why := place.Cells(least); got != 1 || why != api.OK {
		t.Errorf("Cells of the least: %d, error %d", got, why)
	}
}

// P19.3, P19.4: each cell is a plain one or just one region's: there is no gap, and none that two share.
func TestNoGap(t *testing.T) {
	seed := strewn(1)
	for range 3000 {
		c := seed.config()
		lies(t, c)
		all, _ := place.Cells(c)
		owners := make([]int, all)
		for cell := range c.Raw {
			owners[cell]++
		}
		for i, r := range c.Regions {
			base, _ := place.Base(c, i)
			size, _ := place.Size(r)
			for cell := base; cell < base+size; cell++ {
				owners[cell]++
			}
		}
		if i := slices.IndexFunc(owners, func(count int) bool { return count != 1 }); i >= 0 {
			t.Fatalf("%+v: the cell %d has %d owners", c, i, owners[i])
		}
	}
}

// P19.3, P19.4: where regions lie hangs on the plain cells and on the regions alone.
func TestOtherNumbersDoNotCount(t *testing.T) {
	seed := strewn(2)
	for range 500 {
		one, two := seed.config(), seed.config()
		two.Raw, two.Regions = one.Raw, one.Regions
		lies(t, two)
		cells, _ := place.Cells(one)
		if got, why := place.Cells(two); got != cells || why != api.OK {
			t.Errorf("Cells of %+v and %+v: %d, %d", one, two, cells, got)
		}
		for i := range one.Regions {
			base, _ := place.Base(one, i)
			baseIs(t, two, i, base)
		}
	}
}

// P19.3: where a region lies hangs on those ahead of it, and neither on itself nor on those behind it.
func TestWhatIsBehindDoesNotCount(t *testing.T) {
	seed := strewn(3)
	for range 500 {
		c := seed.config()
		for i := range c.Regions {
			base, _ := place.Base(c, i)
			other := c
			other.Regions = append(slices.Clone(c.Regions[:i]), seed.region(), seed.region())[:i+1+seed.below(min(2, 8-i))]
			baseIs(t, other, i, base)
		}
	}
}

// same: two configurations, held against each other.
func same(one, two api.Config) bool {
	return one.Raw == two.Raw && one.Ring == two.Ring && one.Writes == two.Writes && one.Stamps == two.Stamps &&
		one.Multi == two.Multi && one.Tries == two.Tries && slices.Equal(one.Regions, two.Regions)
}

// R3: regions are not written into, nor their spare room, by a call that answers or by one that refuses; and spare room holds no regions.
func TestArgumentsAreTheirOwners(t *testing.T) {
	room := make([]api.Region, 0, 12)
	for i := range 12 {
		// Those behind the eighth could not be.
		room = append(room, api.Region{Kind: 1 + i%4 + i/8*4, Cap: i})
	}
	before := slices.Clone(room)
	for count := range 13 {
		c := with(4, room[:count]...)
		want := c
		if count <= 8 {
			lies(t, c)
		} else {
			refused(t, c)
		}
		if !slices.Equal(room, before) || !same(c, want) || cap(c.Regions) != cap(room) {
			t.Fatalf("%d regions: they became %+v", count, room)
		}
	}
}

// R3, R4: a configuration that is written over between calls is what stands there then.
func TestWrittenOver(t *testing.T) {
	c := example()
	lies(t, c)
	c.Regions[0] = api.Region{Kind: api.KindDict, Cap: 16}
	lies(t, c)
	baseIs(t, c, 1, 53)
	c.Regions[3].Kind = 5
	refused(t, c)
	c.Regions[3].Kind = api.KindQueue
	lies(t, c)
	c.Raw = 64
	lies(t, c)
	baseIs(t, c, 0, 64)
	c.Regions = c.Regions[:1]
	lies(t, c)
	noBase(t, c, 1)
	copy(c.Regions, example().Regions)
	lies(t, c)
	lies(t, example())
}

// R4: what is told hangs on what was handed in alone, whatever was asked or refused ahead of it.
func TestSameAgain(t *testing.T) {
	seed := strewn(4)
	var all []api.Config
	for range 100 {
		all = append(all, seed.config())
	}
	for range 1000 {
		lies(t, all[seed.below(len(all))])
		wrong := all[seed.below(len(all))]
		wrong.Ring = 17
		refused(t, wrong)
		noSize(t, api.Region{Kind: 5, Cap: 3})
		lies(t, example())
	}
}
