package chain_test

import (
	"math"
	"slices"
	"testing"

	"carousel/api"
	"carousel/chain"
)

// shapes: such cells say such a chain, and stay what they are.
func shapes(t *testing.T, most int, cells []int64, keys ...int64) {
	t.Helper()
	before := slices.Clone(cells)
	got, why := chain.Shape(most, cells)
	if why != api.OK || got.Kind != api.KindChain || !slices.Equal(got.Values, keys) || len(got.Pairs) != 0 {
		t.Errorf("Shape(%d, %v): %+v, error %d, not %v", most, before, got, why, keys)
	}
	if !slices.Equal(cells, before) {
		t.Errorf("Shape(%d, %v): the cells became %v", most, before, cells)
	}
}

// shapeRefused: such cells say nothing.
func shapeRefused(t *testing.T, most int, cells []int64, want api.Errno) {
	t.Helper()
	if got, why := chain.Shape(most, cells); why != want || got.Kind != 0 || len(got.Values) != 0 || len(got.Pairs) != 0 {
		t.Errorf("Shape(%d, %v): %+v, error %d, not %d", most, cells, got, why, want)
	}
}

// says are the keys that cells say, by the words of P18.3; false: they say nothing.
func says(most int, cells []int64) ([]int64, bool) {
	used := cells[2]
	if used < 0 || used > int64(most) {
		return nil, false
	}
	come := map[int64]int{}
	var keys []int64
	for side := range 2 {
		own := map[int64]bool{}
		p := cells[side]
		for p >= 1 && p <= used && !own[p] {
			own[p] = true
			come[p]++
			if side == 0 {
				keys = append(keys, cells[1+2*p])
			}
			p = cells[2+2*p]
		}
		if p != 0 {
			return nil, false
		}
	}
	for node := int64(1); node <= used; node++ {
		if come[node] != 1 {
			return nil, false
		}
	}
	rising := slices.IsSorted(keys) && len(slices.Compact(slices.Clone(keys))) == len(keys)
	return keys, rising
}

// shapesAs holds Shape against the words of P18.3.
func shapesAs(t *testing.T, most int, cells []int64) bool {
	t.Helper()
	keys, ok := says(most, cells)
	if ok {
		shapes(t, most, cells, keys...)
	} else {
		shapeRefused(t, most, cells, api.ErrRange)
	}
	return ok
}

// P18.3: chains of every capacity and every length, with any number of nodes that were taken out.
func TestShape(t *testing.T) {
	seed := strewn(11)
	for most := 0; most <= 16; most++ {
		for length := 0; length <= most; length++ {
			for free := 0; length+free <= most; free++ {
				cells, keys := laid(&seed, most, length, free)
				shapes(t, most, cells, keys...)
			}
		}
		shapes(t, most, make([]int64, 3+2*most))
	}
	shapes(t, 3, []int64{1, 0, 2, 5, 2, 9, 0, 0, 0}, 5, 9)
	shapes(t, 3, []int64{2, 0, 2, 9, 0, 5, 1, 0, 0}, 5, 9)
	shapes(t, 3, []int64{3, 2, 3, 9, 0, 7, 0, 5, 1}, 5, 9)
	shapes(t, 3, []int64{0, 2, 3, 9, 0, 7, 3, 5, 1})
	shapes(t, 0, []int64{0, 0, 0})
	// Keys rise as numbers with their sign.
	shapes(t, 4, []int64{2, 0, 4, -1, 4, math.MinInt64, 1, math.MaxInt64, 0, 0, 3}, math.MinInt64, -1, 0, math.MaxInt64)
}

// P18.3: the keys of free nodes, and all that nodes above USED hold, don't count.
func TestShapeOfWhatIsFree(t *testing.T) {
	for _, w := range edgeWords() {
		shapes(t, 4, []int64{2, 1, 3, w, 3, 5, 0, w, 0, w, w}, 5)
		shapes(t, 4, []int64{0, 1, 2, w, 2, w, 0, w, w, w, w})
		shapes(t, 2, []int64{0, 0, 0, w, w, w, w})
	}
}

// P18.3: USED out of range; and one that is below, or above, what is come to.
func TestShapeUsed(t *testing.T) {
	seed := strewn(12)
	for most := 0; most <= 16; most++ {
		for length := 0; length <= most; length++ {
			free := seed.below(most - length + 1)
			cells, keys := laid(&seed, most, length, free)
			used := int64(length + free)
			for _, u := range append(edgeWords(), used-1, used+1, int64(most), int64(most)+1, used+256, used+1<<32) {
				cells[2] = u
				if u == used {
					shapes(t, most, cells, keys...)
					continue
				}
				shapeRefused(t, most, cells, api.ErrRange)
			}
		}
	}
	shapeRefused(t, 0, []int64{0, 0, 1}, api.ErrRange)
	shapeRefused(t, 0, []int64{0, 0, -1}, api.ErrRange)
	// One too many for the capacity, though the cells would do.
	shapeRefused(t, 1, []int64{1, 0, 2, 5, 0}, api.ErrRange)
}

// P18.3: each link of each chain, with any word in its stead: above USED, nowhere, back, or into the other way.
func TestShapeLinks(t *testing.T) {
	seed := strewn(13)
	for most := 0; most <= 16; most++ {
		for length := 0; length <= most; length++ {
			free := seed.below(most - length + 1)
			cells, keys := laid(&seed, most, length, free)
			links := []int{0, 1}
			for node := 1; node <= length+free; node++ {
				links = append(links, 2+2*node)
			}
			for _, at := range links {
				was := cells[at]
				for _, w := range append(edgeWords(), int64(length+free)+1) {
					if w != was {
						cells[at] = w
						shapeRefused(t, most, cells, api.ErrRange)
					}
				}
				cells[at] = was
			}
			shapes(t, most, cells, keys...)
		}
	}
	// Above USED, from each side; and nowhere, but not by 0.
	shapeRefused(t, 3, []int64{2, 0, 1, 5, 0, 9, 0, 0, 0}, api.ErrRange)
	shapeRefused(t, 3, []int64{1, 0, 1, 5, 2, 9, 0, 0, 0}, api.ErrRange)
	shapeRefused(t, 3, []int64{1, 2, 1, 5, 0, 9, 0, 0, 0}, api.ErrRange)
	shapeRefused(t, 3, []int64{0, 1, 1, 5, 3, 9, 0, 0, 0}, api.ErrRange)
	shapeRefused(t, 3, []int64{1, 0, 1, 5, -1, 0, 0, 0, 0}, api.ErrRange)
	shapeRefused(t, 3, []int64{1, 4, 1, 5, 0, 0, 0, 0, 0}, api.ErrRange)
	shapeRefused(t, 0, []int64{1, 0, 0}, api.ErrRange)
	shapeRefused(t, 0, []int64{0, 1, 0}, api.ErrRange)
}

// P18.3: a node that is come to twice, from one side or from both; and one that is come to from neither.
func TestShapeTwiceOrNever(t *testing.T) {
	// Round, from HEAD and from FREE, with nodes beside it that are come to and without.
	shapeRefused(t, 3, []int64{1, 0, 1, 5, 1, 0, 0, 0, 0}, api.ErrRange)
	shapeRefused(t, 3, []int64{1, 0, 2, 5, 2, 9, 1, 0, 0}, api.ErrRange)
	shapeRefused(t, 3, []int64{1, 0, 3, 5, 2, 9, 3, 11, 2}, api.ErrRange)
	shapeRefused(t, 3, []int64{0, 1, 1, 5, 1, 0, 0, 0, 0}, api.ErrRange)
	shapeRefused(t, 3, []int64{0, 2, 3, 5, 3, 9, 1, 11, 1}, api.ErrRange)
	// From both, at once and behind others.
	shapeRefused(t, 3, []int64{1, 1, 1, 5, 0, 0, 0, 0, 0}, api.ErrRange)
	shapeRefused(t, 3, []int64{1, 2, 2, 5, 2, 9, 0, 0, 0}, api.ErrRange)
	shapeRefused(t, 3, []int64{1, 2, 3, 5, 3, 7, 3, 9, 0}, api.ErrRange)
	// From neither: alone, or where both sides' nodes are as many as USED says.
	shapeRefused(t, 3, []int64{0, 0, 1, 5, 0, 0, 0, 0, 0}, api.ErrRange)
	shapeRefused(t, 3, []int64{1, 0, 2, 5, 0, 9, 0, 0, 0}, api.ErrRange)
	shapeRefused(t, 3, []int64{0, 1, 2, 5, 0, 9, 0, 0, 0}, api.ErrRange)
	shapeRefused(t, 3, []int64{1, 1, 2, 5, 0, 9, 0, 0, 0}, api.ErrRange)
	shapeRefused(t, 3, []int64{2, 2, 2, 5, 0, 9, 0, 0, 0}, api.ErrRange)
	shapeRefused(t, 4, []int64{1, 1, 4, 5, 2, 9, 0, 0, 0, 0, 0}, api.ErrRange)
	for most := 2; most <= 16; most++ {
		for node := 1; node <= most; node++ {
			cells := make([]int64, 3+2*most)
			nodes := make([]int, 0, most)
			for i := 1; i <= most; i++ {
				cells[1+2*i] = int64(i)
				if i != node {
					nodes = append(nodes, i)
				}
			}
			cells[2] = int64(most)
			link(cells, 0, nodes)
			shapeRefused(t, most, cells, api.ErrRange)
			cells[1], cells[2+2*node] = int64(node), 0
			keys, _ := says(most, cells)
			shapes(t, most, cells, keys...)
			if len(keys) != most-1 {
				t.Errorf("%d keys of %d nodes", len(keys), most)
			}
		}
	}
}

// P18.3: keys that are the same, or fall, at each place of each chain.
func TestShapeKeys(t *testing.T) {
	seed := strewn(14)
	for most := 2; most <= 16; most++ {
		for length := 2; length <= most; length++ {
			cells, keys := laid(&seed, most, length, seed.below(most-length+1))
			node := cells[0]
			for i := range keys {
				at := 1 + 2*node
				if i > 0 {
					for _, w := range []int64{keys[i-1], keys[0], math.MinInt64} {
						cells[at] = w
						shapeRefused(t, most, cells, api.ErrRange)
					}
				}
				if i+1 < length {
					for _, w := range []int64{keys[i+1], keys[length-1], math.MaxInt64} {
						cells[at] = w
						shapeRefused(t, most, cells, api.ErrRange)
					}
				}
				cells[at] = keys[i]
				node = cells[2+2*node]
			}
			shapes(t, most, cells, keys...)
		}
	}
	for _, a := range edgeWords() {
		for _, b := range edgeWords() {
			cells := []int64{1, 0, 2, a, 2, b, 0}
			if a < b {
				shapes(t, 2, cells, a, b)
				continue
			}
			shapeRefused(t, 2, cells, api.ErrRange)
		}
	}
}

// P18.3: all cells of the capacities 0 to 3 whose links and USED are from one below to one above what may be, with as many different keys as there are nodes.
func TestShapeOfAllCells(t *testing.T) {
	for most := range 4 {
		low, high := int64(-1), int64(most)+1
		cells := make([]int64, 3+2*most)
		yes := 0
		var fill func(at int)
		fill = func(at int) {
			if at == len(cells) {
				if shapesAs(t, most, cells) {
					yes++
				}
				return
			}
			from, to := low, high
			if at > 2 && at%2 == 1 {
				from, to = 0, int64(most)-1
			}
			for w := from; w <= to; w++ {
				cells[at] = w
				fill(at + 1)
			}
		}
		fill(0)
		if yes == 0 {
			t.Errorf("most %d: no chain among them", most)
		}
	}
}

// P18.3: any cells whose links lead to nodes, mostly, of which some are chains and some are not.
func TestShapeOfAnyCells(t *testing.T) {
	seed := strewn(15)
	yes, no := 0, 0
	for range 20000 {
		most := 1 + seed.below(16)
		length := seed.below(most + 1)
		cells, _ := laid(&seed, most, length, seed.below(most-length+1))
		for range seed.below(3) {
			at := seed.below(len(cells))
			cells[at] = int64(seed.below(most + 2))
			if seed.below(8) == 0 {
				cells[at] = seed.one(edgeWords())
			}
		}
		if shapesAs(t, most, cells) {
			yes++
		} else {
			no++
		}
	}
	if yes < 2000 || no < 2000 {
		t.Errorf("%d chains, %d others", yes, no)
	}
}

// P18.3: one cell too few and one too many, and any other number, also of words out of range; and capacities that may not be, however many cells there are.
func TestShapeCounts(t *testing.T) {
	odd := func(count int) []int64 {
		cells := make([]int64, count)
		for i := range cells {
			cells[i] = -1
		}
		return cells
	}
	for most := 0; most <= 16; most++ {
		for count := range 60 {
			if count != 2*most+3 {
				shapeRefused(t, most, make([]int64, count), api.ErrArg)
				shapeRefused(t, most, odd(count), api.ErrArg)
			}
		}
		shapeRefused(t, most, odd(2*most+3), api.ErrRange)
		shapeRefused(t, most, nil, api.ErrArg)
		// Spare room holds no cells.
		shapeRefused(t, most, make([]int64, 2*most+2, 2*most+3), api.ErrArg)
	}
	for _, most := range noCapacities() {
		for count := range 60 {
			shapeRefused(t, most, make([]int64, count), api.ErrArg)
			shapeRefused(t, most, odd(count), api.ErrArg)
		}
		shapeRefused(t, most, nil, api.ErrArg)
		if most > 0 && most <= 1<<16+3 {
			shapeRefused(t, most, make([]int64, 2*most+3), api.ErrArg)
		}
	}
}

// R3: the cells and the answer, with the spare room of both, are apart, and so are two answers.
func TestShapesApart(t *testing.T) {
	seed := strewn(16)
	for most := 0; most <= 16; most++ {
		for length := 0; length <= most; length++ {
			own, keys := laid(&seed, most, length, seed.below(most-length+1))
			room := append(own, 1, 2, 3)
			before := slices.Clone(room)
			cells := room[:2*most+3]
			one, _ := chain.Shape(most, cells)
			two, _ := chain.Shape(most, cells)
			spare := one.Values[:cap(one.Values)]
			for i := range spare {
				spare[i] = -1
			}
			_ = append(one.Values, -2)
			if !slices.Equal(room, before) {
				t.Errorf("most %d: the cells became %v", most, room)
			}
			for i := range room {
				room[i] = -3
			}
			if !slices.Equal(two.Values, keys) {
				t.Errorf("most %d: the other answer became %v", most, two.Values)
			}
		}
	}
}

// run does a call over cells, up to its end.
func run(t *testing.T, cells []int64, x *chain.Machine) (int64, int) {
	t.Helper()
	v := int64(-99)
	for range 60 {
		w := x.Next(v)
		v = -99
		switch w.Kind {
		case api.WantRead:
			v = cells[w.Cell]
		case api.WantWrite:
			cells[w.Cell] = w.Value
		case api.WantDone:
			return w.Value, w.Code
		default:
			t.Fatalf("no such want: %+v", w)
		}
	}
	t.Fatal("it comes to no end")
	return 0, 0
}

// set is a chain as it is meant: keys in no order.
type set struct {
	most int
	keys map[int64]struct{}
}

// setOf is one of such keys.
func setOf(most int, keys ...int64) *set {
	s := &set{most, map[int64]struct{}{}}
	for _, key := range keys {
		s.keys[key] = struct{}{}
	}
	return s
}

// rising are its keys in order.
func (s *set) rising() []int64 {
	var keys []int64
	for key := range s.keys {
		keys = append(keys, key)
	}
	slices.Sort(keys)
	return keys
}

// leastWhere is the least key that is wanted.
func (s *set) leastWhere(wanted func(key int64) bool) (int64, int) {
	for _, key := range s.rising() {
		if wanted(key) {
			return key, api.CodeOK
		}
	}
	return 0, api.CodeNone
}

// does is what a call answers, and what becomes of the set.
func (s *set) does(call int, k int64) (int64, int) {
	_, has := s.keys[k]
	switch call {
	case api.CallAdd:
		if has {
			return 0, api.CodeThere
		}
		if len(s.keys) == s.most {
			return 0, api.CodeFull
		}
		s.keys[k] = struct{}{}
	case api.CallDel:
		if !has {
			return 0, api.CodeNone
		}
		delete(s.keys, k)
	case api.CallHas:
		if has {
			return 1, api.CodeOK
		}
	case api.CallLeast:
		return s.leastWhere(func(int64) bool { return true })
	case api.CallNext:
		return s.leastWhere(func(key int64) bool { return key > k })
	case api.CallLen:
		return int64(len(s.keys)), api.CodeOK
	}
	return 0, api.CodeOK
}

// same does a call over cells and over the set, and holds both against each other.
func same(t *testing.T, cells []int64, base int, s *set, call, count int, k int64) {
	t.Helper()
	want, wantCode := s.does(call, k)
	got, code := run(t, cells, made(t, base, s.most, call, []int64{k}[:count]...))
	if got != want || code != wantCode {
		t.Fatalf("most %d, call %d, key %d: %d, code %d, not %d, %d", s.most, call, k, got, code, want, wantCode)
	}
	shapes(t, s.most, cells[base:base+2*s.most+3], s.rising()...)
}

// P18.4: one call over a chain of every capacity and every length, with any number of nodes that were taken out, of each of its keys and of others: what is around its cells stays.
func TestOneCallInCells(t *testing.T) {
	seed := strewn(17)
	for most := 0; most <= 16; most++ {
		for length := 0; length <= most; length++ {
			for free := 0; length+free <= most; free++ {
				own, keys := laid(&seed, most, length, free)
				for _, k := range around(&seed, keys) {
					for _, c := range calls() {
						base := seed.below(4)
						cells := slices.Concat(make([]int64, base), own, []int64{0, 0, 0})
						same(t, cells, base, setOf(most, keys...), c.call, c.count, k)
						around := append(slices.Clone(cells[:base]), cells[base+2*most+3:]...)
						if slices.ContainsFunc(around, func(v int64) bool { return v != 0 }) {
							t.Fatalf("most %d, call %d: the cells around became %v", most, c.call, around)
						}
					}
				}
			}
		}
	}
}

// P18.4: filled up and emptied again and again: nodes that were taken out are used again, and none is lost.
func TestNodesAreUsedAgain(t *testing.T) {
	seed := strewn(18)
	for most := 0; most <= 16; most++ {
		cells := make([]int64, 2*most+3)
		s := setOf(most)
		for range 20 {
			for len(s.keys) < most {
				same(t, cells, 0, s, api.CallAdd, 1, seed.word()>>seed.below(64))
			}
			same(t, cells, 0, s, api.CallAdd, 1, seed.word())
			same(t, cells, 0, s, api.CallLen, 0, 0)
			if cells[2] != int64(most) {
				t.Fatalf("most %d: USED is %d", most, cells[2])
			}
			left := seed.below(most + 1)
			for len(s.keys) > left {
				k := seed.one(s.rising())
				same(t, cells, 0, s, api.CallDel, 1, k)
				same(t, cells, 0, s, api.CallHas, 1, k)
				same(t, cells, 0, s, api.CallNext, 1, k)
				same(t, cells, 0, s, api.CallLeast, 0, 0)
			}
		}
	}
	// The node that was taken out last is used first, ahead of those that were never used.
	cells := make([]int64, 9)
	s := setOf(3)
	for k := range int64(20) {
		same(t, cells, 0, s, api.CallAdd, 1, k)
		if want := []int64{1, 0, 1, k, 0, 0, 0, 0, 0}; !slices.Equal(cells, want) {
			t.Errorf("the cells are %v, not %v", cells, want)
		}
		same(t, cells, 0, s, api.CallDel, 1, k)
		if want := []int64{0, 1, 1, k, 0, 0, 0, 0, 0}; !slices.Equal(cells, want) {
			t.Errorf("the cells are %v, not %v", cells, want)
		}
	}
}

// P18.4: the chapter's examples over cells, one behind the other, and all cells behind each.
func TestExamplesInCells(t *testing.T) {
	cells := make([]int64, 9)
	s := setOf(3)
	for _, e := range []struct {
		call   int
		k      int64
		behind []int64
	}{
		{api.CallAdd, 5, []int64{1, 0, 1, 5, 0, 0, 0, 0, 0}},
		{api.CallAdd, 3, []int64{2, 0, 2, 5, 0, 3, 1, 0, 0}},
		{api.CallAdd, 5, []int64{2, 0, 2, 5, 0, 3, 1, 0, 0}},
		{api.CallDel, 3, []int64{1, 2, 2, 5, 0, 3, 0, 0, 0}},
		{api.CallAdd, 9, []int64{1, 0, 2, 5, 2, 9, 0, 0, 0}},
		{api.CallNext, 5, []int64{1, 0, 2, 5, 2, 9, 0, 0, 0}},
		{api.CallNext, 9, []int64{1, 0, 2, 5, 2, 9, 0, 0, 0}},
		{api.CallNext, 1, []int64{1, 0, 2, 5, 2, 9, 0, 0, 0}},
	} {
		same(t, cells, 0, s, e.call, 1, e.k)
		if !slices.Equal(cells, e.behind) {
			t.Fatalf("call %d of %d: the cells are %v, not %v", e.call, e.k, cells, e.behind)
		}
	}
}

// P18.4: chains that lie beside each other in cells, at first all 0, each held against a plain set.
func TestChainsInCells(t *testing.T) {
	const chains = 3
	seed := strewn(19)
	for most := 0; most <= 16; most++ {
		size := chain.Size(most)
		cells := make([]int64, chains*size)
		sets := make([]*set, chains)
		for i := range sets {
			sets[i] = setOf(most)
		}
		for range 800 {
			i := seed.below(chains)
			// Adds come twice as often: so chains are long, at times full.
			c := append(calls(), calls()[0])[seed.below(7)]
			same(t, cells, i*size, sets[i], c.call, c.count, int64(seed.below(2*most+3)-1))
			for k, s := range sets {
				shapes(t, most, cells[k*size:(k+1)*size], s.rising()...)
			}
		}
	}
}
