package plain_test

import (
	"math"
	"slices"
	"testing"

	"carousel/api"
	"carousel/plain"
)

// refused: a configuration may not be, so there is no state of it, whatever the cells are.
func refused(t *testing.T, c api.Config) {
	t.Helper()
	if s, why := plain.New(c); s != nil || why != api.ErrConfig {
		t.Errorf("New(%+v): %v, error %d", c, s, why)
	}
	saysNothing(t, c, nil, api.ErrConfig)
	for _, count := range []int{0, 1, max(0, min(c.Raw, 1024)), 11, 22, 1024} {
		saysNothing(t, c, make([]int64, count), api.ErrConfig)
		saysNothing(t, c, slices.Repeat([]int64{-1}, count), api.ErrConfig)
	}
}

// noCall: there is no such call, and nothing changes.
func noCall(t *testing.T, s *plain.State, region, call int, args ...int64) {
	t.Helper()
	raw, shapes := s.Raw(), s.Shapes()
	if answer, code, why := s.Call(region, call, args...); answer != 0 || code != 0 || why != api.ErrArg {
		t.Errorf("Call(%d, %d, %v): %d, code %d, error %d", region, call, args, answer, code, why)
	}
	if s != nil {
		rawIs(t, s, raw...)
		shapesAre(t, s, shapes...)
	}
}

// P20.1, P20.5: each number of a configuration that may not be: one below, one above, and far off.
func TestWrongNumbers(t *testing.T) {
	for _, wrong := range []func(c *api.Config){
		func(c *api.Config) { c.Raw = 0 }, func(c *api.Config) { c.Raw = -1 }, func(c *api.Config) { c.Raw = 65 }, func(c *api.Config) { c.Raw = math.MinInt }, func(c *api.Config) { c.Raw = math.MaxInt },
		func(c *api.Config) { c.Ring = 0 }, func(c *api.Config) { c.Ring = -1 }, func(c *api.Config) { c.Ring = 17 },
		func(c *api.Config) { c.Writes = 0 }, func(c *api.Config) { c.Writes = -1 }, func(c *api.Config) { c.Writes = 25 },
		func(c *api.Config) { c.Stamps = 0 }, func(c *api.Config) { c.Stamps = -1 }, func(c *api.Config) { c.Stamps = 1<<40 + 1 },
		func(c *api.Config) { c.Tries = 0 }, func(c *api.Config) { c.Tries = -1 }, func(c *api.Config) { c.Tries = 256 },
		func(c *api.Config) { *c = api.Config{} },
	} {
		for _, regions := range [][]api.Region{nil, oneOfEach(2)} {
			c := with(2, regions...)
			made(t, c)
			wrong(&c)
			refused(t, c)
		}
	}
}

// P20.1, P20.5: regions that may not be, at each place among others, and too many of them.
func TestWrongRegions(t *testing.T) {
	for _, wrong := range []api.Region{
		{}, {Kind: 0, Cap: 2}, {Kind: 5, Cap: 2}, {Kind: -1, Cap: 2}, {Kind: math.MinInt, Cap: 2}, {Kind: math.MaxInt, Cap: 2},
		{Kind: api.KindCounter, Cap: -1}, {Kind: api.KindQueue, Cap: -1}, {Kind: api.KindDict, Cap: -1}, {Kind: api.KindChain, Cap: -1},
		{Kind: api.KindCounter, Cap: 17}, {Kind: api.KindQueue, Cap: 17}, {Kind: api.KindDict, Cap: 17}, {Kind: api.KindChain, Cap: 17},
		{Kind: api.KindCounter, Cap: math.MaxInt}, {Kind: api.KindChain, Cap: math.MinInt},
	} {
		refused(t, with(2, wrong))
		for at := range 5 {
			refused(t, with(2, slices.Insert(oneOfEach(2), at, wrong)...))
		}
	}
	for _, kind := range kinds() {
		for count := 9; count < 20; count++ {
			refused(t, with(2, slices.Repeat([]api.Region{{Kind: kind, Cap: 1}}, count)...))
		}
		made(t, with(2, slices.Repeat([]api.Region{{Kind: kind, Cap: 1}}, 8)...))
	}
}

// P20.3: regions below 0 and behind the last, with every call that there is.
func TestNoSuchRegions(t *testing.T) {
	for count := range 9 {
		s := made(t, with(2, slices.Repeat(oneOfEach(3), 2)[:count]...))
		for _, region := range []int{
			math.MinInt, math.MinInt + 1, math.MinInt32, -1 << 32, -256, -count - 1, -count, -2, -1,
			count, count + 1, count + 8, 256, 1 << 16, 1 << 32, math.MaxInt32, math.MaxInt - 1, math.MaxInt,
		} {
			if region >= 0 && region < count {
				continue
			}
			for _, k := range knownCalls() {
				noCall(t, s, region, k.call, make([]int64, k.args)...)
			}
		}
	}
}

// P20.3: the last region is there, and so is the first.
func TestFirstAndLastRegion(t *testing.T) {
	for count := 1; count <= 8; count++ {
		s := made(t, with(2, slices.Repeat([]api.Region{{Kind: api.KindCounter, Cap: 1}}, count)...))
		answers(t, s, 5, api.CodeOK, 0, api.CallAdd, 0, 5)
		answers(t, s, 5+5*int64(1/count), api.CodeOK, count-1, api.CallAdd, 0, 5)
		want := emptyShapes(slices.Repeat([]api.Region{{Kind: api.KindCounter, Cap: 1}}, count))
		want[0].Values[0] += 5
		want[count-1].Values[0] += 5
		shapesAre(t, s, want...)
	}
}

// P20.3: calls that a kind doesn't have, those of the other kinds among them, with any number of arguments.
func TestNoSuchCalls(t *testing.T) {
	s := filled(t)
	for region, kind := range kinds() {
		for _, call := range []int{
			math.MinInt, math.MinInt32, -256, -2, -1, 0, 1, 2, 3, 4, 5, 6, 7, 8, 9, 10, 32, 33, 37, 40, 256, 256 + 1, 256 + 5, 1<<16 + 2, 1<<32 + 1, 1<<32 + 3, 1<<32 + 5, math.MaxInt32, math.MaxInt,
		} {
			if slices.ContainsFunc(callsOf(kind), func(k knownCall) bool { return k.call == call }) {
				continue
			}
			for count := range 5 {
				noCall(t, s, region, call, make([]int64, count)...)
				noCall(t, s, region, call, slices.Repeat([]int64{1}, count)...)
			}
		}
	}
	isFilled(t, s)
}

// P20.3: one argument too few and too many, none at all, and many.
func TestArgumentCounts(t *testing.T) {
	for region, kind := range kinds() {
		for _, k := range callsOf(kind) {
			s := filled(t)
			for count := range 10 {
				if count == k.args {
					continue
				}
				noCall(t, s, region, k.call, make([]int64, count)...)
				noCall(t, s, region, k.call, slices.Repeat([]int64{1}, count)...)
				noCall(t, s, region, k.call, slices.Repeat([]int64{41}, count)...)
			}
			noCall(t, s, region, k.call, make([]int64, 1000)...)
			if k.args > 0 {
				noCall(t, s, region, k.call)
				noCall(t, s, region, k.call, []int64(nil)...)
				// Spare room holds no arguments.
				noCall(t, s, region, k.call, make([]int64, k.args-1, k.args)...)
			}
			isFilled(t, s)
			if _, _, why := s.Call(region, k.call, make([]int64, k.args, k.args+3)...); why != api.OK {
				t.Errorf("Call(%d, %d) with %d arguments: error %d", region, k.call, k.args, why)
			}
		}
	}
}

// P20.5: ErrConfig ahead of ErrArg, and that ahead of ErrRange.
func TestWhichErrorFirst(t *testing.T) {
	c := with(2, api.Region{Kind: api.KindQueue, Cap: 2})
	bad := []int64{0, 0, 9, 9, 0, 0}
	saysNothing(t, c, bad, api.ErrRange)
	saysNothing(t, c, bad[:5], api.ErrArg)
	saysNothing(t, c, append(slices.Clone(bad), 9), api.ErrArg)
	c.Ring = 0
	saysNothing(t, c, bad, api.ErrConfig)
	saysNothing(t, c, bad[:5], api.ErrConfig)
	saysNothing(t, c, make([]int64, 6), api.ErrConfig)
}

// R2, R4: what was refused leaves no trace: neither in a state nor in those that are made behind it.
func TestRefusedLeavesNothing(t *testing.T) {
	s := filled(t)
	seed := strewn(7)
	for range 200 {
		refused(t, with(65))
		noCall(t, s, seed.below(20)-10, 9+seed.below(5), seed.number())
		c, cells := allSorts()
		cells[4] = 9
		saysNothing(t, c, cells, api.ErrRange)
	}
	isFilled(t, s)
	isFilled(t, filled(t))
}
