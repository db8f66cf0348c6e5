package queue_test

import (
	"math"
	"slices"
	"testing"

	"carousel/api"
	"carousel/queue"
)

// shapes: such cells say such a queue, and stay what they are.
func shapes(t *testing.T, most int, cells, values []int64) {
	t.Helper()
	before := slices.Clone(cells)
	got, why := queue.Shape(most, cells)
	if why != api.OK || got.Kind != api.KindQueue || !slices.Equal(got.Values, values) || len(got.Pairs) != 0 {
		t.Errorf("Shape(%d, %v): %+v, error %d, not %v", most, before, got, why, values)
	}
	if !slices.Equal(cells, before) {
		t.Errorf("Shape(%d, %v): the cells became %v", most, before, cells)
	}
}

// shapeRefused: such cells say nothing.
func shapeRefused(t *testing.T, most int, cells []int64, want api.Errno) {
	t.Helper()
	if got, why := queue.Shape(most, cells); why != want || got.Kind != 0 || len(got.Values) != 0 || len(got.Pairs) != 0 {
		t.Errorf("Shape(%d, %v): %+v, error %d, not %d", most, cells, got, why, want)
	}
}

// laid are cells of a queue: its slots have words of the seed, but where its values stand; these are told, too.
func laid(seed *strewn, most, first, length int) (cells, values []int64) {
	cells = []int64{int64(first), int64(length)}
	for range most {
		cells = append(cells, seed.word())
	}
	at := first
	for range length {
		values = append(values, cells[2+at])
		at++
		if at == most {
			at = 0
		}
	}
	return cells, values
}

// P16.3: queues of every capacity, every FIRST and every length.
func TestShape(t *testing.T) {
	seed := strewn(5)
	for most := 0; most <= 16; most++ {
		for first := range max(most, 1) {
			for length := 0; length <= most; length++ {
				cells, values := laid(&seed, most, first, length)
				shapes(t, most, cells, values)
			}
		}
		shapes(t, most, make([]int64, most+2), nil)
	}
	shapes(t, 3, []int64{2, 3, 10, 11, 12}, []int64{12, 10, 11})
	shapes(t, 3, []int64{1, 2, 10, math.MinInt64, math.MaxInt64}, []int64{math.MinInt64, math.MaxInt64})
	shapes(t, 1, []int64{0, 1, -1}, []int64{-1})
}

// P16.3: FIRST and LEN of any words: a queue is told just where both are in their range.
func TestShapeRanges(t *testing.T) {
	seed := strewn(6)
	for most := 0; most <= 16; most++ {
		n := int64(most)
		for _, first := range edgeWords() {
			for _, length := range edgeWords() {
				if length >= 0 && length <= n && (first >= 0 && first < n || n == 0 && first == 0) {
					cells, values := laid(&seed, most, int(first), int(length))
					shapes(t, most, cells, values)
					continue
				}
				cells := make([]int64, most+2)
				cells[0], cells[1] = first, length
				shapeRefused(t, most, cells, api.ErrRange)
			}
		}
	}
}

// P16.3: the ends of both ranges, told one by one.
func TestShapeRangeEnds(t *testing.T) {
	for most := 1; most <= 16; most++ {
		n := int64(most)
		with := func(first, length int64) []int64 {
			return append([]int64{first, length}, make([]int64, most)...)
		}
		shapes(t, most, with(n-1, n), make([]int64, most))
		shapes(t, most, with(0, 0), nil)
		for _, first := range []int64{n, n + 1, -1, -n, math.MinInt64, math.MaxInt64} {
			shapeRefused(t, most, with(first, 0), api.ErrRange)
			shapeRefused(t, most, with(first, 1), api.ErrRange)
		}
		for _, length := range []int64{n + 1, n + 2, -1, math.MinInt64, math.MaxInt64} {
			shapeRefused(t, most, with(0, length), api.ErrRange)
			shapeRefused(t, most, with(n-1, length), api.ErrRange)
		}
	}
	for _, w := range edgeWords() {
		if w != 0 {
			shapeRefused(t, 0, []int64{w, 0}, api.ErrRange)
			shapeRefused(t, 0, []int64{0, w}, api.ErrRange)
		}
	}
}

// P16.3: one cell too few and one too many, and any other number, also of a FIRST and a LEN out of range; and capacities that may not be, however many cells there are.
func TestShapeCounts(t *testing.T) {
	odd := func(count int) []int64 {
		cells := make([]int64, count)
		for i := range cells {
			cells[i] = -1
		}
		return cells
	}
	for most := 0; most <= 16; most++ {
		for count := range 40 {
			if count != most+2 {
				shapeRefused(t, most, make([]int64, count), api.ErrArg)
				shapeRefused(t, most, odd(count), api.ErrArg)
			}
		}
		shapeRefused(t, most, nil, api.ErrArg)
		// Spare room holds no cells.
		shapeRefused(t, most, make([]int64, most+1, most+2), api.ErrArg)
	}
	for _, most := range noCapacities() {
		for count := range 40 {
			shapeRefused(t, most, make([]int64, count), api.ErrArg)
			shapeRefused(t, most, odd(count), api.ErrArg)
		}
		shapeRefused(t, most, nil, api.ErrArg)
		if most > 0 && most <= 1<<16+3 {
			shapeRefused(t, most, make([]int64, most+2), api.ErrArg)
		}
	}
}

// R3: the cells and the answer, with the spare room of both, are apart, and so are two answers.
func TestShapesApart(t *testing.T) {
	for most := 0; most <= 16; most++ {
		for length := 0; length <= most; length++ {
			room := make([]int64, most+6)
			for i := range room {
				room[i] = int64(i + 1)
			}
			room[0], room[1] = 0, int64(length)
			before := slices.Clone(room)
			values := before[2 : 2+length]
			cells := room[:most+2]
			one, _ := queue.Shape(most, cells)
			two, _ := queue.Shape(most, cells)
			spare := one.Values[:cap(one.Values)]
			for i := range spare {
				spare[i] = -1
			}
			_ = append(one.Values, -2)
			if !slices.Equal(room, before) {
				t.Errorf("most %d: the cells became %v", most, room)
			}
			if !slices.Equal(two.Values, values) {
				t.Errorf("most %d: the other answer became %v", most, two.Values)
			}
			for i := range room {
				room[i] = -3
			}
			if !slices.Equal(two.Values, values) {
				t.Errorf("most %d: behind other cells the answer is %v", most, two.Values)
			}
		}
	}
}

// run does a call over cells, up to its end.
func run(t *testing.T, cells []int64, x *queue.Machine) (int64, int) {
	t.Helper()
	v := int64(-99)
	for range 6 {
		w := x.Next(v)
		v = -99
		switch w.Kind {
		case api.WantRead:
			v = cells[w.Cell]
		case api.WantWrite:
			cells[w.Cell] = w.Value
		case api.WantDone:
			return w.Value, w.Code
		default:
			t.Fatalf("no such want: %+v", w)
		}
	}
	t.Fatal("it comes to no end")
	return 0, 0
}

// line is a queue as it is meant.
type line struct {
	most   int
	values []int64
}

// does is what a call answers, and what becomes of the line.
func (l *line) does(call int, v int64) (int64, int) {
	switch {
	case call == api.CallLen:
		return int64(len(l.values)), api.CodeOK
	case call == api.CallPut && len(l.values) == l.most:
		return 0, api.CodeFull
	case call == api.CallPut:
		l.values = append(l.values, v)
		return 0, api.CodeOK
	case len(l.values) == 0:
		return 0, api.CodeNone
	}
	v = l.values[0]
	l.values = l.values[1:]
	return v, api.CodeOK
}

// same does a call over cells and over the line, and holds both against each other.
func same(t *testing.T, cells []int64, base int, l *line, call int, v int64) {
	t.Helper()
	args := []int64{v}
	if call != api.CallPut {
		args = nil
	}
	want, wantCode := l.does(call, v)
	got, code := run(t, cells, made(t, base, l.most, call, args...))
	if got != want || code != wantCode {
		t.Fatalf("most %d, call %d: %d, code %d, not %d, %d", l.most, call, got, code, want, wantCode)
	}
	shapes(t, l.most, cells[base:base+l.most+2], l.values)
}

// P16.4: one call over a queue of every capacity, every FIRST and every length: what is around its cells stays.
func TestOneCallInCells(t *testing.T) {
	seed := strewn(7)
	for most := 0; most <= 16; most++ {
		for first := range max(most, 1) {
			for length := 0; length <= most; length++ {
				for _, c := range calls() {
					own, values := laid(&seed, most, first, length)
					base := seed.below(4)
					cells := slices.Concat(make([]int64, base), own, []int64{0, 0, 0})
					same(t, cells, base, &line{most, values}, c.call, seed.word())
					around := append(slices.Clone(cells[:base]), cells[base+most+2:]...)
					if slices.ContainsFunc(around, func(v int64) bool { return v != 0 }) {
						t.Fatalf("most %d, call %d: the cells around became %v", most, c.call, around)
					}
				}
			}
		}
	}
}

// P16.4: filled up and emptied from every FIRST on, so that the slots go round.
func TestRound(t *testing.T) {
	seed := strewn(8)
	for most := 0; most <= 16; most++ {
		for first := range max(most, 1) {
			cells, _ := laid(&seed, most, first, 0)
			l := &line{most: most}
			for round := range 3 {
				for range most + 2 - round {
					same(t, cells, 0, l, api.CallPut, seed.word())
				}
				for range most + 2 - 2*round {
					same(t, cells, 0, l, api.CallGet, 0)
				}
				same(t, cells, 0, l, api.CallLen, 0)
			}
		}
	}
}

// P16.4: queues that lie beside each other in cells, at first all 0, each held against a plain one.
func TestQueuesInCells(t *testing.T) {
	const queues = 4
	seed := strewn(9)
	for most := 0; most <= 16; most++ {
		size := queue.Size(most)
		cells := make([]int64, queues*size)
		lines := make([]line, queues)
		for i := range lines {
			lines[i].most = most
		}
		for range 600 {
			i := seed.below(queues)
			same(t, cells, i*size, &lines[i], calls()[seed.below(3)].call, seed.word())
			for k := range lines {
				shapes(t, most, cells[k*size:(k+1)*size], lines[k].values)
			}
		}
	}
}
