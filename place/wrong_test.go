package place_test

import (
	"math"
	"slices"
	"testing"

	"carousel/api"
	"carousel/place"
)

// refused: a configuration may not be, so there is nothing of it, whichever region is asked for.
func refused(t *testing.T, c api.Config) {
	t.Helper()
	if why := place.Check(c); why != api.ErrConfig {
		t.Errorf("Check(%+v): error %d", c, why)
	}
	if got, why := place.Cells(c); got != 0 || why != api.ErrConfig {
		t.Errorf("Cells(%+v): %d, error %d", c, got, why)
	}
	// Where there is no such region, either, the configuration is told ahead of it.
	for _, region := range append(noRegions(len(c.Regions)), 0, 1, 7, len(c.Regions)-1) {
		if got, why := place.Base(c, region); got != 0 || why != api.ErrConfig {
			t.Errorf("Base(%+v, %d): %d, error %d", c, region, got, why)
		}
	}
}

// noSize: a region may not be.
func noSize(t *testing.T, r api.Region) {
	t.Helper()
	if got, why := place.Size(r); got != 0 || why != api.ErrConfig {
		t.Errorf("Size(%+v): %d, error %d", r, got, why)
	}
}

// noRegions are numbers that no region of so many has.
func noRegions(count int) []int {
	return []int{
		math.MinInt, math.MinInt + 1, math.MinInt32, -1 << 32, -256, -count - 1, -2, -1,
		count, count + 1, count + 8, 256 + count, 1<<16 + count, 1 << 32, math.MaxInt32, math.MaxInt - 1, math.MaxInt,
	}
}

// outside are numbers that are not from least to most; far ones, of which the lowest bits are, too.
func outside(least, most int) []int {
	return []int{
		math.MinInt, math.MinInt + 1, math.MinInt32, -1 << 40, -1 << 32, -1<<32 + most, -1 << 16, -256, -256 + most, -most, -2, -1, least - 1,
		most + 1, most + 2, 2*most + 1, most + 256, 1 << 16, 1<<16 + most, math.MaxInt32, 1 << 31, 1 << 32, 1<<32 + most, 1<<40 + most, math.MaxInt - 1, math.MaxInt,
	}
}

// noKinds are numbers of no kind of region.
func noKinds() []int {
	return append(outside(1, 4), 0, 5, 8, 256+1, 1<<32+1, math.MinInt+1)
}

// number is one of a configuration's, which is from 1 to the most.
type number struct {
	name string
	most int
	set  func(c *api.Config, n int)
}

// numbers are all of them, the last stamp among them.
func numbers() []number {
	return []number{
		{"Raw", 64, func(c *api.Config, n int) { c.Raw = n }},
		{"Ring", 16, func(c *api.Config, n int) { c.Ring = n }},
		{"Writes", 24, func(c *api.Config, n int) { c.Writes = n }},
		{"Stamps", 1 << 40, func(c *api.Config, n int) { c.Stamps = int64(n) }},
		{"Tries", 255, func(c *api.Config, n int) { c.Tries = n }},
	}
}

// mayBe are configurations that may be, of which one part is made wrong.
func mayBe() []api.Config {
	seed := strewn(5)
	return []api.Config{example(), greatest(), {Raw: 1, Ring: 1, Writes: 1, Stamps: 1, Tries: 1}, seed.config(), seed.config(), seed.config()}
}

// P19.1: each number from its least to its greatest, whatever else stands there.
func TestNumbers(t *testing.T) {
	for _, c := range mayBe() {
		for _, n := range numbers() {
			for v := 1; v <= min(n.most, 255); v++ {
				n.set(&c, v)
				lies(t, c)
			}
			for _, v := range []int{1, 2, n.most / 2, n.most - 1, n.most} {
				n.set(&c, v)
				lies(t, c)
			}
		}
		for _, stamps := range []int64{1, 2, 255, 256, 1 << 16, math.MaxInt32, 1 << 31, 1 << 32, 1<<32 + 1, 1<<40 - 1, 1 << 40} {
			c.Stamps = stamps
			lies(t, c)
		}
		for _, multi := range []bool{false, true} {
			c.Multi = multi
			lies(t, c)
		}
	}
}

// P19.1, P19.3, P19.4: each number alone that is below its least, or above its greatest: by one, and by much.
func TestWrongNumbers(t *testing.T) {
	for _, c := range mayBe() {
		for _, n := range numbers() {
			wrong := c
			for _, v := range append(outside(1, n.most), 0, n.most+1) {
				if v >= 1 && v <= n.most {
					continue
				}
				n.set(&wrong, v)
				refused(t, wrong)
			}
		}
		for _, stamps := range []int64{math.MinInt64, -1 << 40, -1, 0, 1<<40 + 1, 1<<40 + 2, 1 << 41, 1 << 62, math.MaxInt64 - 1, math.MaxInt64} {
			wrong := c
			wrong.Stamps = stamps
			refused(t, wrong)
		}
		lies(t, c)
	}
}

// P19.1: a number's own limit holds for it, and no other one's: each at the greatest of the others.
func TestLimitsAreTheirOwn(t *testing.T) {
	for _, n := range numbers() {
		for _, other := range numbers() {
			c := example()
			n.set(&c, other.most)
			if other.most <= n.most {
				lies(t, c)
				continue
			}
			refused(t, c)
		}
	}
}

// P19.1: several wrongs at once are the one error, all of them at once too.
func TestSeveralWrongs(t *testing.T) {
	for bits := range 1 << 7 {
		for _, above := range []bool{false, true} {
			c := example()
			for i, n := range numbers() {
				if bits>>i&1 == 0 {
					continue
				}
				n.set(&c, 0)
				if above {
					n.set(&c, n.most+1)
				}
			}
			if bits>>5&1 == 1 {
				c.Regions[2] = api.Region{Kind: 5, Cap: 17}
			}
			if bits>>6&1 == 1 {
				c.Regions = slices.Concat(c.Regions, c.Regions, c.Regions[:1])
			}
			if bits == 0 {
				lies(t, c)
				continue
			}
			refused(t, c)
		}
	}
	refused(t, api.Config{})
	refused(t, api.Config{Raw: -1, Ring: -1, Writes: -1, Stamps: -1, Tries: -1, Regions: []api.Region{{Kind: -1, Cap: -1}}})
}

// P19.1: up to eight regions, and not nine or more, of whichever kind, with cells or without.
func TestRegionCounts(t *testing.T) {
	for _, kind := range kinds() {
		for _, most := range []int{0, 1, 16} {
			for count := range 40 {
				c := with(4, slices.Repeat([]api.Region{{Kind: kind, Cap: most}}, count)...)
				if count <= 8 {
					lies(t, c)
					continue
				}
				refused(t, c)
			}
			for _, count := range []int{256, 256 + 4, 1000, 1<<16 + 1} {
				refused(t, with(4, slices.Repeat([]api.Region{{Kind: kind, Cap: most}}, count)...))
			}
		}
	}
}

// P19.1, P19.2: each kind that is none, with each capacity.
func TestNoSuchKinds(t *testing.T) {
	for _, kind := range noKinds() {
		for most := -1; most <= 17; most++ {
			r := api.Region{Kind: kind, Cap: most}
			noSize(t, r)
			refused(t, with(4, r))
		}
	}
	noSize(t, api.Region{})
	refused(t, with(4, api.Region{}))
}

// P19.1, P19.2: each capacity that may not be, of each kind.
func TestNoSuchCapacities(t *testing.T) {
	for _, kind := range append(kinds(), noKinds()...) {
		for _, most := range append(outside(0, 16), -1, 17) {
			r := api.Region{Kind: kind, Cap: most}
			noSize(t, r)
			refused(t, with(4, r))
		}
	}
}

// P19.1, P19.3, P19.4: a region that may not be at any place among others that may be: of those ahead of it nothing is told, either.
func TestOneWrongRegion(t *testing.T) {
	seed := strewn(6)
	for count := 1; count <= 8; count++ {
		for at := range count {
			for _, wrong := range []api.Region{
				{}, {Kind: 0, Cap: 3}, {Kind: 5, Cap: 3}, {Kind: -1, Cap: 3}, {Kind: math.MinInt}, {Kind: math.MaxInt},
				{Kind: api.KindCounter, Cap: -1}, {Kind: api.KindCounter, Cap: 17}, {Kind: api.KindQueue, Cap: -2}, {Kind: api.KindQueue, Cap: 17},
				{Kind: api.KindDict, Cap: -1}, {Kind: api.KindDict, Cap: 18}, {Kind: api.KindChain, Cap: math.MinInt}, {Kind: api.KindChain, Cap: math.MaxInt},
				{Kind: 5, Cap: 17}, {Kind: 0, Cap: -1},
			} {
				c := with(1 + seed.below(64))
				for range count {
					c.Regions = append(c.Regions, seed.region())
				}
				lies(t, c)
				c.Regions[at] = wrong
				refused(t, c)
			}
		}
	}
}

// P19.3: the first region and the last are there; one behind the last, one below 0, and what is far off are not.
func TestNoSuchRegion(t *testing.T) {
	seed := strewn(7)
	for count := range 9 {
		for range 20 {
			c := with(1 + seed.below(64))
			for range count {
				c.Regions = append(c.Regions, seed.region())
			}
			for _, region := range noRegions(count) {
				noBase(t, c, region)
			}
			if count > 0 {
				baseIs(t, c, 0, c.Raw)
				cells, _ := place.Cells(c)
				baseIs(t, c, count-1, cells-sizeOf(c.Regions[count-1]))
			}
		}
	}
}

// P19.3: spare room behind the regions holds none.
func TestSpareRoomIsNoRegion(t *testing.T) {
	c := example()
	for count := range 5 {
		short := c
		short.Regions = c.Regions[:count]
		lies(t, short)
		for region := count; region < 5; region++ {
			noBase(t, short, region)
		}
	}
	// What may not be there doesn't count, either.
	c.Regions[3] = api.Region{Kind: 5, Cap: 17}
	c.Regions = c.Regions[:3]
	lies(t, c)
}

// P19.3: ErrConfig ahead of ErrArg, for each wrong part.
func TestConfigAheadOfArgument(t *testing.T) {
	for _, n := range numbers() {
		c := example()
		n.set(&c, n.most+1)
		for _, region := range noRegions(4) {
			noBase(t, example(), region)
			if got, why := place.Base(c, region); got != 0 || why != api.ErrConfig {
				t.Errorf("%s above its most, Base(.., %d): %d, error %d", n.name, region, got, why)
			}
		}
	}
}
