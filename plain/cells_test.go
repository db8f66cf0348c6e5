package plain_test

import (
	"math"
	"slices"
	"testing"

	"carousel/api"
	"carousel/chain"
	"carousel/counter"
	"carousel/dict"
	"carousel/place"
	"carousel/plain"
	"carousel/queue"
)

// says: cells say a state.
func says(t *testing.T, c api.Config, cells []int64) *plain.State {
	t.Helper()
	before := slices.Clone(cells)
	s, why := plain.Of(c, cells)
	if s == nil || why != api.OK {
		t.Fatalf("Of(%+v, %v): %v, error %d", c, cells, s, why)
	}
	if !slices.Equal(cells, before) {
		t.Errorf("Of(%+v, %v): the cells became %v", c, before, cells)
	}
	return s
}

// saysNothing: cells are refused.
func saysNothing(t *testing.T, c api.Config, cells []int64, want api.Errno) {
	t.Helper()
	if s, why := plain.Of(c, cells); s != nil || why != want {
		t.Errorf("Of(%+v, %v): %v, error %d, not %d", c, cells, s, why, want)
	}
}

// cellsOf are as many cells as a configuration has, all 0.
func cellsOf(t *testing.T, c api.Config) []int64 {
	t.Helper()
	count, why := place.Cells(c)
	if why != api.OK {
		t.Fatalf("Cells(%+v): error %d", c, why)
	}
	return make([]int64, count)
}

// machine is a call under way, of any kind.
type machine interface {
	Next(v int64) api.Want
}

// machineOf is the call of a region's machine.
func machineOf(r api.Region, base, call int, args ...int64) (machine, api.Errno) {
	switch r.Kind {
	case api.KindCounter:
		return counter.New(base, r.Cap, call, args...)
	case api.KindQueue:
		return queue.New(base, r.Cap, call, args...)
	case api.KindDict:
		return dict.New(base, r.Cap, call, args...)
	}
	return chain.New(base, r.Cap, call, args...)
}

// overCells does a call by its machine over cells: its answer, its code, and whether there is one.
func overCells(t *testing.T, c api.Config, cells []int64, region, call int, args ...int64) (int64, int, api.Errno) {
	t.Helper()
	base, _ := place.Base(c, region)
	x, why := machineOf(c.Regions[region], base, call, args...)
	if why != api.OK {
		return 0, 0, why
	}
	v := int64(0)
	for range 1000 {
		want := x.Next(v)
		switch want.Kind {
		case api.WantRead:
			v = cells[want.Cell]
		case api.WantWrite:
			cells[want.Cell] = want.Value
		default:
			return want.Value, want.Code, api.OK
		}
	}
	t.Fatalf("the call %d of %+v does not end", call, c.Regions[region])
	return 0, 0, api.OK
}

// shapesOf are what the regions' own cells say.
func shapesOf(t *testing.T, c api.Config, cells []int64) []api.Shape {
	t.Helper()
	var shapes []api.Shape
	for i, r := range c.Regions {
		base, _ := place.Base(c, i)
		size, _ := place.Size(r)
		of := map[int]func(int, []int64) (api.Shape, api.Errno){
			api.KindCounter: counter.Shape, api.KindQueue: queue.Shape, api.KindDict: dict.Shape, api.KindChain: chain.Shape,
		}
		shape, why := of[r.Kind](r.Cap, cells[base:base+size])
		if why != api.OK {
			t.Fatalf("the region %d of %+v: error %d", i, c, why)
		}
		shapes = append(shapes, shape)
	}
	return shapes
}

// allSorts is a configuration with one of each kind, and cells of it that say something; dicts and chains with what was taken out.
func allSorts() (api.Config, []int64) {
	c := with(2, api.Region{Kind: api.KindCounter, Cap: 2}, api.Region{Kind: api.KindQueue, Cap: 2}, api.Region{Kind: api.KindDict, Cap: 2}, api.Region{Kind: api.KindChain, Cap: 2})
	return c, []int64{
		7, -8,
		4, -1,
		1, 2, 22, 21,
		1, 2, 99, 98, 1, 1, 50,
		2, 1, 2, 97, 0, 6, 0,
	}
}

// P20.5: what cells say, by hand; the cells of slots and nodes that are not in use don't count.
func TestOf(t *testing.T) {
	c, cells := allSorts()
	s := says(t, c, cells)
	rawIs(t, s, 7, -8)
	shapesAre(t, s, values(api.KindCounter, 4, -1), values(api.KindQueue, 21, 22), pairs(1, 50), values(api.KindChain, 6))
	answers(t, s, 0, api.CodeFull, 1, api.CallPut, 1)
	answers(t, s, 21, api.CodeOK, 1, api.CallGet)
	answers(t, s, 50, api.CodeOK, 2, api.CallGet, 1)
	answers(t, s, 0, api.CodeNone, 2, api.CallGet, 99)
	answers(t, s, 0, api.CodeOK, 2, api.CallPut, 99, 1)
	answers(t, s, 0, api.CodeFull, 2, api.CallPut, 98, 1)
	answers(t, s, 0, api.CodeOK, 3, api.CallHas, 97)
	answers(t, s, 0, api.CodeOK, 3, api.CallAdd, 97)
	answers(t, s, 0, api.CodeFull, 3, api.CallAdd, 96)
	answers(t, s, 5, api.CodeOK, 0, api.CallAdd, 0, 1)
	if s.Load(0) != 7 || s.Load(1) != -8 || s.Load(-1) != -8 {
		t.Errorf("Load: %d, %d", s.Load(0), s.Load(1))
	}
	shapesAre(t, s, values(api.KindCounter, 5, -1), values(api.KindQueue, 22), pairs(1, 50, 99, 1), values(api.KindChain, 6, 97))
}

// P20.1, P20.5: cells that are all 0 say what a new state has, of every configuration.
func TestOfZeroes(t *testing.T) {
	seed := strewn(4)
	for most := 0; most <= 16; most++ {
		for _, regions := range [][]api.Region{nil, oneOfEach(most), append(oneOfEach(most), oneOfEach(16-most)...)} {
			c := with(1+seed.below(64), regions...)
			s := says(t, c, cellsOf(t, c))
			rawIs(t, s, make([]int64, c.Raw)...)
			shapesAre(t, s, emptyShapes(regions)...)
		}
	}
}

// P20.5: plain cells and counters say any numbers, with no region behind them and with some.
func TestOfAnyNumbers(t *testing.T) {
	edges := edgeNumbers()
	for raw := 1; raw <= len(edges); raw++ {
		rawIs(t, says(t, with(raw), edges[:raw]), edges[:raw]...)
		c := with(raw, api.Region{Kind: api.KindCounter, Cap: 0}, api.Region{Kind: api.KindCounter, Cap: 16}, api.Region{Kind: api.KindCounter, Cap: 1})
		all := slices.Repeat(edges, 2)[:raw+17]
		s := says(t, c, all)
		rawIs(t, s, all[:raw]...)
		shapesAre(t, s, values(api.KindCounter), values(api.KindCounter, all[raw:raw+16]...), values(api.KindCounter, all[raw+16]))
	}
}

// P20.5: one cell too few and too many, none at all, and other numbers of them; spare room holds none.
func TestOfCounts(t *testing.T) {
	seed := strewn(5)
	for range 50 {
		c := seed.config()
		right := len(cellsOf(t, c))
		for _, count := range []int{0, 1, c.Raw, right - 1, right + 1, right + 2, 2*right + 1, 1024, 1025} {
			if count != right {
				saysNothing(t, c, make([]int64, count), api.ErrArg)
				saysNothing(t, c, slices.Repeat([]int64{-1}, count), api.ErrArg)
			}
		}
		saysNothing(t, c, nil, api.ErrArg)
		saysNothing(t, c, make([]int64, right-1, right), api.ErrArg)
		says(t, c, make([]int64, right, right+5))
	}
	c, cells := allSorts()
	for count := range cells {
		saysNothing(t, c, cells[:count], api.ErrArg)
	}
	saysNothing(t, c, append(slices.Clone(cells), 0), api.ErrArg)
	says(t, c, cells)
}

// badCells are cells of a region of a kind and of the capacity 2 that its Shape refuses.
func badCells(kind int) [][]int64 {
	switch kind {
	case api.KindQueue:
		return [][]int64{{2, 0, 0, 0}, {-1, 0, 0, 0}, {0, 3, 0, 0}, {0, -1, 0, 0}, {math.MinInt64, 0, 0, 0}, {0, math.MaxInt64, 0, 0}}
	case api.KindDict:
		return [][]int64{{1, 0, 0, 0, 0, 0, 0}, {-1, 0, 0, 0, 0, 0, 0}, {0, 3, 0, 0, 0, 0, 0}, {0, 0, 0, 0, -1, 0, 0}, {2, 1, 0, 9, 1, 0, 9}, {1, 0, 0, 0, 1, 0, 9}}
	}
	return [][]int64{{0, 0, 3, 0, 0, 0, 0}, {0, 0, -1, 0, 0, 0, 0}, {1, 0, 0, 0, 0, 0, 0}, {1, 0, 1, 5, 1, 0, 0}, {1, 0, 2, 5, 2, 5, 0}, {1, 1, 1, 5, 0, 0, 0}, {0, 0, 1, 5, 0, 0, 0}}
}

// P20.5: cells that a kind's Shape refuses, at any place among regions that are fine.
func TestOfRefused(t *testing.T) {
	for _, kind := range []int{api.KindQueue, api.KindDict, api.KindChain} {
		for _, bad := range badCells(kind) {
			for at := range 5 {
				regions := slices.Insert(oneOfEach(2), at, api.Region{Kind: kind, Cap: 2})
				c := with(3, regions...)
				cells := cellsOf(t, c)
				copy(cells, []int64{1, 2, 3})
				base, _ := place.Base(c, at)
				fine := slices.Clone(cells)
				copy(cells[base:], bad)
				saysNothing(t, c, cells, api.ErrRange)
				rawIs(t, says(t, c, fine), 1, 2, 3)
				// Two that are refused are as one.
				saysNothing(t, with(3, api.Region{Kind: kind, Cap: 2}, api.Region{Kind: kind, Cap: 2}), slices.Concat([]int64{1, 2, 3}, bad, bad), api.ErrRange)
			}
			saysNothing(t, with(1, api.Region{Kind: kind, Cap: 2}), slices.Concat([]int64{0}, bad), api.ErrRange)
		}
	}
	// Of the capacity 0.
	saysNothing(t, with(1, api.Region{Kind: api.KindQueue}), []int64{0, 1, 0}, api.ErrRange)
	saysNothing(t, with(1, api.Region{Kind: api.KindDict}), []int64{0, 1}, api.ErrRange)
	saysNothing(t, with(1, api.Region{Kind: api.KindChain}), []int64{0, 0, 0, 1}, api.ErrRange)
}

// P20.5: Of takes what each Shape takes, and refuses what one refuses: any one cell written over.
func TestOfAnyCell(t *testing.T) {
	c, cells := allSorts()
	fine, refused := 0, 0
	for at := range cells {
		for _, w := range append(edgeNumbers(), 3, 4, 6, 50, 97) {
			other := slices.Clone(cells)
			other[at] = w
			yes := true
			base := c.Raw
			for i, of := range []func(int, []int64) (api.Shape, api.Errno){counter.Shape, queue.Shape, dict.Shape, chain.Shape} {
				size, _ := place.Size(c.Regions[i])
				_, why := of(2, other[base:base+size])
				yes = yes && why == api.OK
				base += size
			}
			if !yes {
				refused++
				saysNothing(t, c, other, api.ErrRange)
				continue
			}
			fine++
			s := says(t, c, other)
			rawIs(t, s, other[:2]...)
			shapesAre(t, s, shapesOf(t, c, other)...)
		}
	}
	if fine < 50 || refused < 50 {
		t.Errorf("%d are fine, %d refused", fine, refused)
	}
}

// R3: the cells aren't kept, nor their spare room.
func TestCellsAreNotKept(t *testing.T) {
	c, cells := allSorts()
	room := append(slices.Clone(cells), 1, 2, 3)[:len(cells)]
	s := says(t, c, room)
	spoil(room, -99)
	spoil(c.Regions, api.Region{Kind: api.KindQueue, Cap: 1})
	rawIs(t, s, 7, -8)
	shapesAre(t, s, values(api.KindCounter, 4, -1), values(api.KindQueue, 21, 22), pairs(1, 50), values(api.KindChain, 6))

	c, cells = allSorts()
	room = append(slices.Clone(cells), 1, 2, 3)
	s = says(t, c, room[:len(cells)])
	s.Store(0, 1)
	answers(t, s, 3, api.CodeOK, 0, api.CallAdd, 0, -1)
	answers(t, s, 21, api.CodeOK, 1, api.CallGet)
	answers(t, s, 0, api.CodeOK, 1, api.CallPut, 5)
	answers(t, s, 0, api.CodeOK, 2, api.CallPut, 0, 5)
	answers(t, s, 0, api.CodeOK, 3, api.CallAdd, 5)
	spoilAnswers(s)
	if !slices.Equal(room, append(cells, 1, 2, 3)) {
		t.Errorf("the cells became %v", room)
	}
	rawIs(t, s, 1, -8)
	shapesAre(t, s, values(api.KindCounter, 3, -1), values(api.KindQueue, 22, 5), pairs(0, 5, 1, 50), values(api.KindChain, 5, 6))
}

// P20.6: each sequence of a few calls, done by Call and by the machines over cells, of the capacities 0 to 2.
func TestAllShortSequencesOverCells(t *testing.T) {
	for _, kind := range kinds() {
		for most := range 3 {
			c := with(1, api.Region{Kind: kind, Cap: most})
			everySequenceOverCells(t, c, made(t, c), cellsOf(t, c), 4)
		}
	}
}

// everySequenceOverCells does each call with each of a few arguments, and behind it all that are shorter by one.
func everySequenceOverCells(t *testing.T, c api.Config, s *plain.State, cells []int64, length int) {
	t.Helper()
	shapesAre(t, says(t, c, cells), s.Shapes()...)
	if length == 0 {
		return
	}
	for _, k := range callsOf(c.Regions[0].Kind) {
		for key := range int64(3) {
			args := []int64{key, int64(length)}[:k.args]
			after, cellsAfter := s.Copy(), slices.Clone(cells)
			answer, code, _ := overCells(t, c, cellsAfter, 0, k.call, args...)
			answers(t, after, answer, code, 0, k.call, args...)
			everySequenceOverCells(t, c, after, cellsAfter, length-1)
			if k.args == 0 {
				break
			}
		}
	}
}

// P20.6: any calls, done by Call and by the machines over cells: the same answers and codes, and Of the cells tells the same state; also one that begins from cells in the middle.
func TestAnyCallsOverCells(t *testing.T) {
	seed := strewn(6)
	for range 400 {
		c := seed.config()
		s, cells := made(t, c), cellsOf(t, c)
		for i := range 300 {
			bothWays(t, &seed, c, s, cells)
			if i%20 == 19 {
				told := says(t, c, cells)
				rawIs(t, told, s.Raw()...)
				shapesAre(t, told, s.Shapes()...)
				shapesAre(t, s, shapesOf(t, c, cells)...)
			}
			if i == 150 {
				s = says(t, c, cells)
			}
		}
		if t.Failed() {
			t.Fatalf("of %+v", c)
		}
	}
}

// bothWays does any one thing to a state and to cells, which must answer the same.
func bothWays(t *testing.T, seed *strewn, c api.Config, s *plain.State, cells []int64) {
	t.Helper()
	if len(c.Regions) == 0 || seed.below(8) == 0 {
		place, v := seed.number(), seed.number()
		s.Store(place, v)
		cells[indexOf(place, c.Raw)] = v
		return
	}
	region := seed.below(len(c.Regions))
	k, args := seed.call(c.Regions[region].Kind)
	answer, code, why := overCells(t, c, cells, region, k.call, args...)
	if why != api.OK {
		t.Fatalf("%+v has no call %+v", c.Regions[region], k)
	}
	answers(t, s, answer, code, region, k.call, args...)
}

// P20.3, P20.6: Call knows just those calls that the machines know, with just as many arguments.
func TestSameCallsAsMachines(t *testing.T) {
	for _, most := range []int{0, 1, 3, 16} {
		c := with(1, oneOfEach(most)...)
		for region := range 4 {
			for call := -2; call <= 12; call++ {
				for count := range 6 {
					args := make([]int64, count)
					answer, code, why := overCells(t, c, cellsOf(t, c), region, call, args...)
					s := made(t, c)
					got, gotCode, gotWhy := s.Call(region, call, args...)
					if got != answer || gotCode != code || gotWhy != why {
						t.Errorf("capacity %d, Call(%d, %d, %v): %d, code %d, error %d, not %d, code %d, error %d", most, region, call, args, got, gotCode, gotWhy, answer, code, why)
					}
				}
			}
		}
	}
}
