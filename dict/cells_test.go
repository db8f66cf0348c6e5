package dict_test

import (
	"maps"
	"math"
	"slices"
	"testing"

	"carousel/api"
	"carousel/dict"
)

// pairsOf are keys and their values, by rising keys.
func pairsOf(holds map[int64]int64) []api.Pair {
	var pairs []api.Pair
	for _, key := range slices.Sorted(maps.Keys(holds)) {
		pairs = append(pairs, api.Pair{Key: key, Value: holds[key]})
	}
	return pairs
}

// shapes: such cells say such a dict, and stay what they are.
func shapes(t *testing.T, most int, cells []int64, pairs ...api.Pair) {
	t.Helper()
	before := slices.Clone(cells)
	got, why := dict.Shape(most, cells)
	if why != api.OK || got.Kind != api.KindDict || !slices.Equal(got.Pairs, pairs) || len(got.Values) != 0 {
		t.Errorf("Shape(%d, %v): %+v, error %d, not %v", most, before, got, why, pairs)
	}
	if !slices.Equal(cells, before) {
		t.Errorf("Shape(%d, %v): the cells became %v", most, before, cells)
	}
}

// shapeRefused: such cells say nothing.
func shapeRefused(t *testing.T, most int, cells []int64, want api.Errno) {
	t.Helper()
	if got, why := dict.Shape(most, cells); why != want || got.Kind != 0 || len(got.Values) != 0 || len(got.Pairs) != 0 {
		t.Errorf("Shape(%d, %v): %+v, error %d, not %d", most, cells, got, why, want)
	}
}

// says is what cells say, by the words of P17.3; false: nothing.
func says(most int, cells []int64) (map[int64]int64, bool) {
	holds := map[int64]int64{}
	for slot := range most {
		state, key, value := cells[1+3*slot], cells[2+3*slot], cells[3+3*slot]
		if state < 0 || state > 2 {
			return nil, false
		}
		if state != 1 {
			continue
		}
		if _, twice := holds[key]; twice {
			return nil, false
		}
		if lookUp(key, most, cells).found != slot {
			return nil, false
		}
		holds[key] = value
	}
	return holds, cells[0] == int64(len(holds))
}

// P17.3: dicts of every capacity and every length, with slots that are EMPTY, THERE and GONE.
func TestShape(t *testing.T) {
	seed := strewn(11)
	for most := 0; most <= 16; most++ {
		for length := 0; length <= most; length++ {
			for range 10 {
				cells, holds := laid(&seed, most, length)
				shapes(t, most, cells, pairsOf(holds)...)
			}
		}
		shapes(t, most, make([]int64, 1+3*most))
	}
	shapes(t, 2, []int64{1, 1, 0, 9, 0, 0, 0}, api.Pair{Key: 0, Value: 9})
	shapes(t, 0, []int64{0})
	// The keys' slots, with the capacity 4: of 0 0, of 1 2, of 4 1, of 3 3.
	shapes(t, 4, []int64{4, 1, 0, 10, 1, 4, 14, 1, 1, 11, 1, 3, 13},
		api.Pair{Key: 0, Value: 10}, api.Pair{Key: 1, Value: 11}, api.Pair{Key: 3, Value: 13}, api.Pair{Key: 4, Value: 14})
	// Keys rise as numbers with their sign; with the capacity 3 the first slots of -2, the least and the greatest int64 are 2, 1, 2.
	shapes(t, 3, []int64{3, 1, math.MaxInt64, 5, 1, math.MinInt64, 6, 1, -2, 7},
		api.Pair{Key: math.MinInt64, Value: 6}, api.Pair{Key: -2, Value: 7}, api.Pair{Key: math.MaxInt64, Value: 5})
}

// P17.3: what the slots that are not THERE hold doesn't count, the keys that are THERE elsewhere among it.
func TestShapeOfWhatIsGone(t *testing.T) {
	// With the capacity 4 the way of 2 and of 5 is 0 1 2 3.
	shapes(t, 4, []int64{1, 2, 5, 50, 1, 5, 51, 2, 5, 52, 0, 5, 53}, api.Pair{Key: 5, Value: 51})
	shapes(t, 4, []int64{0, 2, 5, 50, 2, 5, 51, 2, 5, 52, 2, 5, 53})
	shapes(t, 4, []int64{1, 2, 0, 0, 2, 0, 0, 2, 0, 0, 1, 5, 53}, api.Pair{Key: 5, Value: 53})
}

// P17.3: a state out of range, in each slot of each dict.
func TestShapeStates(t *testing.T) {
	seed := strewn(12)
	for most := 1; most <= 16; most++ {
		for length := 0; length <= most; length++ {
			cells, holds := laid(&seed, most, length)
			for slot := range most {
				state := cells[1+3*slot]
				for _, w := range edgeWords() {
					if w >= 0 && w <= 2 {
						continue
					}
					cells[1+3*slot] = w
					shapeRefused(t, most, cells, api.ErrRange)
				}
				cells[1+3*slot] = state
			}
			shapes(t, most, cells, pairsOf(holds)...)
			// As many as are THERE are told, though one slot more has a state that may not be.
			if length > 0 {
				slot := slices.IndexFunc(wayOf(0, most), func(slot int) bool { return cells[1+3*slot] == 1 })
				cells[1+3*wayOf(0, most)[slot]] = 3
				cells[0]--
				shapeRefused(t, most, cells, api.ErrRange)
			}
		}
	}
}

// P17.3: a COUNT that is not how many are THERE.
func TestShapeCount(t *testing.T) {
	seed := strewn(13)
	for most := 0; most <= 16; most++ {
		for length := 0; length <= most; length++ {
			cells, holds := laid(&seed, most, length)
			n := int64(length)
			for _, c := range append(edgeWords(), n-1, n+1, n+256, n+1<<32, int64(most)) {
				cells[0] = c
				if c == n {
					shapes(t, most, cells, pairsOf(holds)...)
					continue
				}
				shapeRefused(t, most, cells, api.ErrRange)
			}
		}
	}
	shapeRefused(t, 2, []int64{2, 1, 0, 9, 0, 0, 0}, api.ErrRange)
	// A slot that is GONE is none that is THERE.
	shapeRefused(t, 2, []int64{2, 1, 0, 9, 2, 0, 0}, api.ErrRange)
	shapes(t, 2, []int64{1, 1, 0, 9, 2, 0, 0}, api.Pair{Key: 0, Value: 9})
}

// P17.3: two slots with one key, side by side and far apart, however many keys COUNT says.
func TestShapeOneKeyTwice(t *testing.T) {
	for most := 2; most <= 16; most++ {
		for key := int64(0); key < 20; key++ {
			way := wayOf(key, most)
			for j := 1; j < most; j++ {
				for i := range j {
					cells := make([]int64, 1+3*most)
					for slot := range most {
						cells[1+3*slot] = 2
					}
					cells[1+3*way[i]], cells[2+3*way[i]] = 1, key
					cells[1+3*way[j]], cells[2+3*way[j]] = 1, key
					for _, c := range []int64{1, 2} {
						cells[0] = c
						shapeRefused(t, most, cells, api.ErrRange)
					}
					cells[2+3*way[j]], cells[1+3*way[j]] = key, 2
					cells[0] = 1
					shapes(t, most, cells, api.Pair{Key: key})
				}
			}
		}
	}
}

// P17.3: a key that would not be found, as an EMPTY slot lies ahead of it on its way, wherever that lies; behind the key's own slot it may.
func TestShapeNotFound(t *testing.T) {
	for most := 1; most <= 16; most++ {
		for key := int64(0); key < 20; key++ {
			way := wayOf(key, most)
			for j := range most {
				for i := range most {
					if i == j {
						continue
					}
					cells := make([]int64, 1+3*most)
					for slot := range most {
						cells[1+3*slot] = 2
					}
					cells[0] = 1
					cells[1+3*way[i]] = 0
					cells[1+3*way[j]], cells[2+3*way[j]], cells[3+3*way[j]] = 1, key, 7
					if i < j {
						shapeRefused(t, most, cells, api.ErrRange)
						continue
					}
					shapes(t, most, cells, api.Pair{Key: key, Value: 7})
				}
			}
		}
	}
	// With the capacity 4 the first slot of 1 is 2.
	shapeRefused(t, 4, []int64{1, 1, 1, 9, 0, 0, 0, 0, 0, 0, 0, 0, 0}, api.ErrRange)
	shapeRefused(t, 4, []int64{1, 0, 0, 0, 0, 0, 0, 0, 0, 0, 1, 1, 9}, api.ErrRange)
	shapes(t, 4, []int64{1, 0, 0, 0, 0, 0, 0, 1, 1, 9, 0, 0, 0}, api.Pair{Key: 1, Value: 9})
}

// P17.3: any cells with few keys, of which some are dicts and some are not.
func TestShapeOfAnyCells(t *testing.T) {
	seed := strewn(14)
	yes, no := 0, 0
	for range 20000 {
		most := seed.below(6)
		cells := make([]int64, 1+3*most)
		for slot := range most {
			cells[1+3*slot] = []int64{0, 1, 1, 2, 2, 1, 2, 2}[seed.below(8)]
			if seed.below(40) == 0 {
				cells[1+3*slot] = seed.one(edgeWords())
			}
			cells[2+3*slot], cells[3+3*slot] = int64(seed.below(12)), seed.word()
			if cells[1+3*slot] == 1 {
				cells[0]++
			}
		}
		if seed.below(20) == 0 {
			cells[0] = seed.one(edgeWords())
		}
		if holds, ok := says(most, cells); ok {
			yes++
			shapes(t, most, cells, pairsOf(holds)...)
			continue
		}
		no++
		shapeRefused(t, most, cells, api.ErrRange)
	}
	if yes < 2000 || no < 2000 {
		t.Errorf("%d dicts, %d others", yes, no)
	}
}

// P17.3: one cell too few and one too many, and any other number, also of words out of range; and capacities that may not be, however many cells there are.
func TestShapeCounts(t *testing.T) {
	odd := func(count int) []int64 {
		cells := make([]int64, count)
		for i := range cells {
			cells[i] = -1
		}
		return cells
	}
	for most := 0; most <= 16; most++ {
		for count := range 60 {
			if count != 3*most+1 {
				shapeRefused(t, most, make([]int64, count), api.ErrArg)
				shapeRefused(t, most, odd(count), api.ErrArg)
			}
		}
		if most > 0 {
			shapeRefused(t, most, odd(3*most+1), api.ErrRange)
		}
		shapeRefused(t, most, nil, api.ErrArg)
		// Spare room holds no cells.
		shapeRefused(t, most, make([]int64, 3*most, 3*most+1), api.ErrArg)
	}
	for _, most := range noCapacities() {
		for count := range 60 {
			shapeRefused(t, most, make([]int64, count), api.ErrArg)
			shapeRefused(t, most, odd(count), api.ErrArg)
		}
		shapeRefused(t, most, nil, api.ErrArg)
		if most > 0 && most <= 1<<16+3 {
			shapeRefused(t, most, make([]int64, 3*most+1), api.ErrArg)
		}
	}
}

// R3: the cells and the answer, with the spare room of both, are apart, and so are two answers.
func TestShapesApart(t *testing.T) {
	seed := strewn(15)
	for most := 0; most <= 16; most++ {
		for length := 0; length <= most; length++ {
			own, holds := laid(&seed, most, length)
			room := append(own, 1, 2, 3)
			before := slices.Clone(room)
			cells := room[:3*most+1]
			one, _ := dict.Shape(most, cells)
			two, _ := dict.Shape(most, cells)
			spare := one.Pairs[:cap(one.Pairs)]
			for i := range spare {
				spare[i] = api.Pair{Key: -1, Value: -1}
			}
			_ = append(one.Pairs, api.Pair{Key: -2})
			if !slices.Equal(room, before) {
				t.Errorf("most %d: the cells became %v", most, room)
			}
			for i := range room {
				room[i] = -3
			}
			if !slices.Equal(two.Pairs, pairsOf(holds)) {
				t.Errorf("most %d: the other answer became %v", most, two.Pairs)
			}
		}
	}
}

// run does a call over cells, up to its end.
func run(t *testing.T, cells []int64, x *dict.Machine) (int64, int) {
	t.Helper()
	v := int64(-99)
	for range 40 {
		w := x.Next(v)
		v = -99
		switch w.Kind {
		case api.WantRead:
			v = cells[w.Cell]
		case api.WantWrite:
			cells[w.Cell] = w.Value
		case api.WantDone:
			return w.Value, w.Code
		default:
			t.Fatalf("no such want: %+v", w)
		}
	}
	t.Fatal("it comes to no end")
	return 0, 0
}

// book is a dict as it is meant.
type book struct {
	most  int
	holds map[int64]int64
}

// does is what a call answers, and what becomes of the book.
func (b *book) does(call int, k, v int64) (int64, int) {
	old, there := b.holds[k]
	switch {
	case call == api.CallLen:
		return int64(len(b.holds)), api.CodeOK
	case call == api.CallPut && !there && len(b.holds) == b.most:
		return 0, api.CodeFull
	case call == api.CallPut:
		b.holds[k] = v
		return 0, api.CodeOK
	case !there:
		return 0, api.CodeNone
	case call == api.CallDel:
		delete(b.holds, k)
		return 0, api.CodeOK
	}
	return old, api.CodeOK
}

// same does a call over cells and over the book, and holds both against each other.
func same(t *testing.T, cells []int64, base int, b *book, call, count int, k, v int64) {
	t.Helper()
	want, wantCode := b.does(call, k, v)
	got, code := run(t, cells, made(t, base, b.most, call, []int64{k, v}[:count]...))
	if got != want || code != wantCode {
		t.Fatalf("most %d, call %d, key %d: %d, code %d, not %d, %d", b.most, call, k, got, code, want, wantCode)
	}
	shapes(t, b.most, cells[base:base+3*b.most+1], pairsOf(b.holds)...)
}

// P17.4: one call over a dict of every capacity and every length, of each of its keys and of others: what is around its cells stays.
func TestOneCallInCells(t *testing.T) {
	seed := strewn(16)
	for most := 0; most <= 16; most++ {
		for length := 0; length <= most; length++ {
			own, holds := laid(&seed, most, length)
			keys := append(slices.Sorted(maps.Keys(holds)), seed.word(), seed.some(most, own), int64(seed.below(9)))
			for _, k := range keys {
				for _, c := range calls() {
					base := seed.below(4)
					cells := slices.Concat(make([]int64, base), own, []int64{0, 0, 0})
					same(t, cells, base, &book{most, maps.Clone(holds)}, c.call, c.count, k, seed.word())
					around := append(slices.Clone(cells[:base]), cells[base+3*most+1:]...)
					if slices.ContainsFunc(around, func(v int64) bool { return v != 0 }) {
						t.Fatalf("most %d, call %d: the cells around became %v", most, c.call, around)
					}
				}
			}
		}
	}
}

// P17.4: filled up and emptied again and again: slots that are GONE are taken again, and no slot is lost, though none is EMPTY any more.
func TestGoneIsTakenAgain(t *testing.T) {
	seed := strewn(17)
	for most := 0; most <= 16; most++ {
		cells := make([]int64, 3*most+1)
		b := &book{most, map[int64]int64{}}
		for range 20 {
			for len(b.holds) < most {
				same(t, cells, 0, b, api.CallPut, 2, seed.word()>>seed.below(64), seed.word())
			}
			same(t, cells, 0, b, api.CallPut, 2, seed.word(), 1)
			same(t, cells, 0, b, api.CallLen, 0, 0, 0)
			left := seed.below(most + 1)
			for _, k := range slices.Sorted(maps.Keys(b.holds)) {
				if len(b.holds) > left {
					same(t, cells, 0, b, api.CallDel, 1, k, 0)
					same(t, cells, 0, b, api.CallGet, 1, k, 0)
				}
			}
		}
	}
	// The one slot of a dict of 1 is taken by one key behind the other.
	cells := make([]int64, 4)
	b := &book{1, map[int64]int64{}}
	for k := range int64(20) {
		same(t, cells, 0, b, api.CallPut, 2, k, 10*k)
		if want := []int64{1, 1, k, 10 * k}; !slices.Equal(cells, want) {
			t.Errorf("the cells are %v, not %v", cells, want)
		}
		same(t, cells, 0, b, api.CallDel, 1, k, 0)
		if want := []int64{0, 2, k, 10 * k}; !slices.Equal(cells, want) {
			t.Errorf("the cells are %v, not %v", cells, want)
		}
	}
}

// P17.4: the chapter's examples over cells, one behind the other, and all cells behind each.
func TestExamplesInCells(t *testing.T) {
	cells := make([]int64, 13)
	b := &book{4, map[int64]int64{}}
	for _, s := range []struct {
		call, count int
		k, v        int64
		behind      []int64
	}{
		{api.CallPut, 2, 1, 10, []int64{1, 0, 0, 0, 0, 0, 0, 1, 1, 10, 0, 0, 0}},
		{api.CallPut, 2, 2, 20, []int64{2, 1, 2, 20, 0, 0, 0, 1, 1, 10, 0, 0, 0}},
		{api.CallPut, 2, 5, 50, []int64{3, 1, 2, 20, 1, 5, 50, 1, 1, 10, 0, 0, 0}},
		{api.CallDel, 1, 2, 0, []int64{2, 2, 2, 20, 1, 5, 50, 1, 1, 10, 0, 0, 0}},
		{api.CallGet, 1, 5, 0, []int64{2, 2, 2, 20, 1, 5, 50, 1, 1, 10, 0, 0, 0}},
		{api.CallPut, 2, 2, 21, []int64{3, 1, 2, 21, 1, 5, 50, 1, 1, 10, 0, 0, 0}},
		{api.CallGet, 1, 4, 0, []int64{3, 1, 2, 21, 1, 5, 50, 1, 1, 10, 0, 0, 0}},
	} {
		same(t, cells, 0, b, s.call, s.count, s.k, s.v)
		if !slices.Equal(cells, s.behind) {
			t.Fatalf("call %d of %d: the cells are %v, not %v", s.call, s.k, cells, s.behind)
		}
	}
}

// P17.4: dicts that lie beside each other in cells, at first all 0, each held against a plain one.
func TestDictsInCells(t *testing.T) {
	const dicts = 3
	seed := strewn(18)
	for most := 0; most <= 16; most++ {
		size := dict.Size(most)
		cells := make([]int64, dicts*size)
		books := make([]book, dicts)
		for i := range books {
			books[i] = book{most, map[int64]int64{}}
		}
		for range 800 {
			i := seed.below(dicts)
			c := calls()[seed.below(4)]
			same(t, cells, i*size, &books[i], c.call, c.count, int64(seed.below(2*most+3)-1), seed.word())
			for k := range books {
				shapes(t, most, cells[k*size:(k+1)*size], pairsOf(books[k].holds)...)
			}
		}
	}
}
