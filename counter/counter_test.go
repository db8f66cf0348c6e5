package counter_test

import (
	"fmt"
	"math"
	"math/big"
	"slices"
	"testing"

	"carousel/api"
	"carousel/counter"
)

// The wants of a call.
func read(cell int) api.Want { return api.Want{Kind: api.WantRead, Cell: cell} }
func write(cell int, v int64) api.Want {
	return api.Want{Kind: api.WantWrite, Cell: cell, Value: v}
}
func done(v int64) api.Want { return api.Want{Kind: api.WantDone, Value: v, Code: api.CodeOK} }
func none() api.Want        { return api.Want{Kind: api.WantDone, Code: api.CodeNone} }

// made is a machine that must be there.
func made(t *testing.T, base, most, call int, args ...int64) *counter.Machine {
	t.Helper()
	x, why := counter.New(base, most, call, args...)
	if x == nil || why != api.OK {
		t.Fatalf("New(%d, %d, %d, %v): %v, error %d", base, most, call, args, x, why)
	}
	return x
}

// strewn gives numbers that are spread out, the same ones each time.
type strewn uint64

func (s *strewn) word() int64 {
	*s = *s*6364136223846793005 + 1442695040888963407
	high := uint64(*s >> 32)
	*s = *s*6364136223846793005 + 1442695040888963407
	return int64(high<<32 | uint64(*s>>32))
}

func (s *strewn) below(n int) int {
	return int(uint64(s.word()) % uint64(n))
}

// edgeWords are words at which a sum, a sign or a narrower number would show.
func edgeWords() []int64 {
	return []int64{
		math.MinInt64, math.MinInt64 + 1, -1 << 62, math.MinInt32 - 1, math.MinInt32, -256, -2, -1, 0, 1, 2, 5, 7, 255, 256,
		math.MaxInt32, 1 << 31, math.MaxUint32, 1 << 32, 1 << 62, math.MaxInt64 - 1, math.MaxInt64,
	}
}

// wrapped is a sum that goes round at the ends, reckoned with numbers of any size.
func wrapped(v, d int64) int64 {
	round := new(big.Int).Lsh(big.NewInt(1), 64)
	sum := new(big.Int).Add(big.NewInt(v), big.NewInt(d))
	sum.Mod(sum, round)
	if sum.BitLen() == 64 {
		sum.Sub(sum, round)
	}
	return sum.Int64()
}

// tell holds all that a machine wants against what was to be told: behind each want it is handed the word that stands beside it.
func tell(t *testing.T, x *counter.Machine, first int64, wants []api.Want, words ...int64) {
	t.Helper()
	v := first
	for i, want := range wants {
		if got := x.Next(v); got != want {
			t.Fatalf("want %d, handed %d: %+v, not %+v", i, v, got, want)
		}
		if i < len(words) {
			v = words[i]
		}
	}
	for i, v := range []int64{9, 0, -1, math.MinInt64, math.MaxInt64, 9} {
		if got, want := x.Next(v), wants[len(wants)-1]; got != want {
			t.Fatalf("further Next %d, handed %d: %+v, not %+v", i, v, got, want)
		}
	}
}

// P15.2, P15.3: the chapter's examples.
func TestExamples(t *testing.T) {
	tell(t, made(t, 10, 3, api.CallAdd, 2, 5), 0, []api.Want{read(12), write(12, 12), done(12), done(12)}, 7, 0, 9)
	tell(t, made(t, 10, 3, api.CallGet, 3), 0, []api.Want{none()})
	tell(t, made(t, 0, 0, api.CallGet, 0), 0, []api.Want{none()})
	refused(t, 10, 3, api.CallLen)
	refused(t, 10, 17, api.CallGet, 0)
	if got, why := counter.Shape(2, []int64{4, -1}); got.Kind != api.KindCounter || !slices.Equal(got.Values, []int64{4, -1}) || len(got.Pairs) != 0 || why != api.OK {
		t.Errorf("Shape(2, [4 -1]): %+v, error %d", got, why)
	}
	shapeRefused(t, 2, []int64{4})
}

// noCapacities are numbers that no capacity is.
func noCapacities() []int {
	return []int{math.MinInt, math.MinInt32, -1 << 32, -16, -2, -1, 17, 18, 32, 255, 256, 256 + 3, 1024, 1 << 16, 1<<16 + 3, 1 << 32, 1<<32 + 3, math.MaxInt32, math.MaxInt}
}

// P15.1: each capacity, and what is none.
func TestSize(t *testing.T) {
	for most := 0; most <= 16; most++ {
		if got := counter.Size(most); got != most {
			t.Errorf("Size(%d): %d", most, got)
		}
	}
	for _, most := range noCapacities() {
		if got := counter.Size(most); got != 0 {
			t.Errorf("Size(%d): %d", most, got)
		}
	}
}

// bases are those at both ends, and some between.
func bases() []int {
	return []int{0, 1, 2, 10, 255, 256, 511, 1000, 1008, 1009, 1023, 1024}
}

// P15.2: both calls at each counter of each row, wherever it lies; also behind the last cell that a memory may have.
func TestEachCounter(t *testing.T) {
	for _, base := range bases() {
		for most := 0; most <= 16; most++ {
			for i := range most {
				cell := base + i
				v, d := int64(100*i-3), int64(most-20)
				tell(t, made(t, base, most, api.CallAdd, int64(i), d), 0, []api.Want{read(cell), write(cell, v+d), done(v + d)}, v, 0)
				tell(t, made(t, base, most, api.CallGet, int64(i)), 0, []api.Want{read(cell), done(v)}, v)
			}
		}
	}
}

// P15.2: whatever was read and is added, the sum goes round at the ends; a get tells what was read.
func TestAnyWords(t *testing.T) {
	for _, v := range edgeWords() {
		tell(t, made(t, 3, 4, api.CallGet, 1), 0, []api.Want{read(4), done(v)}, v)
		for _, d := range edgeWords() {
			sum := wrapped(v, d)
			tell(t, made(t, 3, 4, api.CallAdd, 1, d), 0, []api.Want{read(4), write(4, sum), done(sum)}, v, 0)
		}
	}
	seed := strewn(1)
	for range 2000 {
		v, d, i := seed.word(), seed.word(), seed.below(16)
		sum := wrapped(v, d)
		tell(t, made(t, 7, 16, api.CallAdd, int64(i), d), seed.word(), []api.Want{read(7 + i), write(7+i, sum), done(sum)}, v, seed.word())
	}
}

// P15.2: sums that wrap round, told as numbers.
func TestSumsGoRound(t *testing.T) {
	for _, s := range []struct{ v, d, sum int64 }{
		{math.MaxInt64, 1, math.MinInt64},
		{math.MinInt64, -1, math.MaxInt64},
		{math.MinInt64, math.MinInt64, 0},
		{math.MaxInt64, math.MaxInt64, -2},
		{math.MaxInt64, math.MinInt64, -1},
		{1, math.MaxInt64, math.MinInt64},
		{-5, 5, 0},
		{0, 0, 0},
	} {
		tell(t, made(t, 0, 1, api.CallAdd, 0, s.d), 0, []api.Want{read(0), write(0, s.sum), done(s.sum)}, s.v, 0)
	}
}

// P15.2: a number that is no counter's wants nothing, whatever is handed in; far ones, of which the lowest bits are a counter's, too.
func TestNoSuchCounter(t *testing.T) {
	for _, base := range []int{0, 10, 1024} {
		for most := 0; most <= 16; most++ {
			n := int64(most)
			for _, i := range []int64{
				math.MinInt64, math.MinInt64 + 1, -1 << 62, -1 << 32, -1<<32 + 1, -1 << 16, -256, -255, -17, -16, -n - 1, -2, -1, n, n + 1, 17, 255, 256, 257,
				1 << 16, 1<<16 + 1, math.MaxInt32, 1 << 31, math.MaxUint32, 1 << 32, 1<<32 + 1, 1<<40 + 2, 1<<62 + 1, math.MaxInt64 - 1, math.MaxInt64,
			} {
				for _, v := range []int64{0, 5, -1, math.MinInt64} {
					tell(t, made(t, base, most, api.CallGet, i), v, []api.Want{none()})
					tell(t, made(t, base, most, api.CallAdd, i, 5), v, []api.Want{none()})
				}
			}
		}
	}
}

// P15.2: what the first Next is handed, and the one behind a write, doesn't count; what the one behind the read is handed does.
func TestWhatDoesNotCount(t *testing.T) {
	for _, first := range edgeWords() {
		tell(t, made(t, 10, 3, api.CallGet, 2), first, []api.Want{read(12), done(7)}, 7)
		for _, behind := range edgeWords() {
			tell(t, made(t, 10, 3, api.CallAdd, 2, 5), first, []api.Want{read(12), write(12, 12), done(12)}, 7, behind)
		}
	}
}

// P15.2: behind the end each further Next tells the same, again and again, whatever it is handed.
func TestBehindTheEnd(t *testing.T) {
	seed := strewn(2)
	for _, s := range []struct {
		x     *counter.Machine
		wants []api.Want
	}{
		{made(t, 1, 2, api.CallAdd, 1, -3), []api.Want{read(2), write(2, 1), done(1)}},
		{made(t, 1, 2, api.CallGet, 1), []api.Want{read(2), done(4)}},
		{made(t, 1, 2, api.CallAdd, 2, -3), []api.Want{none()}},
		{made(t, 1, 2, api.CallGet, 2), []api.Want{none()}},
	} {
		tell(t, s.x, 4, s.wants, 4, 4)
		for i := range 500 {
			if got := s.x.Next(seed.word()); got != s.wants[len(s.wants)-1] {
				t.Fatalf("further Next %d: %+v", i, got)
			}
		}
	}
}

// refused: there is no such call.
func refused(t *testing.T, base, most, call int, args ...int64) {
	t.Helper()
	if x, why := counter.New(base, most, call, args...); x != nil || why != api.ErrArg {
		t.Errorf("New(%d, %d, %d, %v): %v, error %d", base, most, call, args, x, why)
	}
}

// arguments are so many, each the number of a counter that is there.
func arguments(count int) []int64 {
	return make([]int64, count)
}

// countOf is how many arguments a call has.
func countOf(call int) int {
	if call == api.CallAdd {
		return 2
	}
	return 1
}

// P15.2: bases from 0 to 1024, with each capacity and call.
func TestBases(t *testing.T) {
	for _, call := range []int{api.CallAdd, api.CallGet} {
		args := arguments(countOf(call))
		for base := 0; base <= 1024; base++ {
			if got := made(t, base, 1, call, args...).Next(0); got != read(base) {
				t.Errorf("the base %d: %+v", base, got)
			}
			made(t, base, 0, call, args...)
			made(t, base, 16, call, args...)
		}
		for _, base := range []int{math.MinInt, math.MinInt32, -1 << 32, -1024, -2, -1, 1025, 1026, 2048, 1 << 16, 1<<16 + 1, 1 << 32, 1<<32 + 1, math.MaxInt32, math.MaxInt} {
			for _, most := range []int{0, 1, 16} {
				refused(t, base, most, call, args...)
			}
		}
	}
}

// P15.2: capacities that may not be, with each call and base.
func TestCapacities(t *testing.T) {
	for _, call := range []int{api.CallAdd, api.CallGet} {
		args := arguments(countOf(call))
		for _, base := range []int{0, 10, 1024} {
			for most := 0; most <= 16; most++ {
				made(t, base, most, call, args...)
			}
			for _, most := range noCapacities() {
				refused(t, base, most, call, args...)
			}
		}
	}
}

// P15.2: calls of the other collections, and what is none, with any number of arguments.
func TestNoSuchCalls(t *testing.T) {
	calls := []int{
		api.CallPut, api.CallDel, api.CallLen, api.CallHas, api.CallLeast, api.CallNext,
		math.MinInt, math.MinInt32, -256 + 1, -2, -1, 0, 9, 10, 33, 34, 256, 256 + 1, 256 + 2, 1<<16 + 1, 1<<32 + 1, 1<<32 + 2, math.MaxInt32, math.MaxInt,
	}
	for _, call := range calls {
		for count := range 5 {
			for _, most := range []int{0, 3, 16} {
				refused(t, 10, most, call, arguments(count)...)
			}
		}
	}
}

// P15.2: fewer arguments, and more; an i that is no counter's changes nothing of that.
func TestArgumentCounts(t *testing.T) {
	for _, call := range []int{api.CallAdd, api.CallGet} {
		for count := range 20 {
			args := arguments(count)
			for _, i := range []int64{0, 3, -1, math.MaxInt64} {
				if count > 0 {
					args[0] = i
				}
				if count == countOf(call) {
					made(t, 10, 3, call, args...)
					continue
				}
				refused(t, 10, 3, call, args...)
			}
		}
		refused(t, 10, 3, call)
		refused(t, 10, 3, call, []int64(nil)...)
		refused(t, 10, 3, call, arguments(1000)...)
	}
}

// P15.2: several wrongs at once are the one error.
func TestSeveralWrongs(t *testing.T) {
	refused(t, -1, -1, 0)
	refused(t, 1025, 17, api.CallLen, 1, 2, 3)
	refused(t, -1, 3, api.CallGet)
	refused(t, 10, 17, api.CallAdd, 1)
}

// R1: a nil machine tells nothing, again and again; such is also what a refused New gives.
func TestNilMachine(t *testing.T) {
	var x *counter.Machine
	gone, _ := counter.New(10, 3, api.CallLen)
	for _, v := range edgeWords() {
		if got := x.Next(v); got != (api.Want{}) {
			t.Errorf("a nil machine, handed %d: %+v", v, got)
		}
		if got := gone.Next(v); got != (api.Want{}) {
			t.Errorf("a refused one, handed %d: %+v", v, got)
		}
	}
}

// R3: arguments are not written into, nor their spare room, and may be written over between any two wants.
func TestArgumentsAreTheirOwners(t *testing.T) {
	for _, call := range []int{api.CallAdd, api.CallGet} {
		for over := range 3 {
			room := []int64{1, 5, 77, 78, 79}
			args := room[:countOf(call)]
			x := made(t, 10, 3, call, args...)
			wants := []api.Want{read(11), done(7)}
			if call == api.CallAdd {
				wants = []api.Want{read(11), write(11, 12), done(12)}
			}
			for i, want := range wants {
				if i == over {
					copy(room, []int64{2, -100, -1, -1, -1})
				} else if i < over && !slices.Equal(room, []int64{1, 5, 77, 78, 79}) {
					t.Fatalf("call %d: the arguments became %v", call, room)
				}
				if got := x.Next(7); got != want {
					t.Errorf("call %d, written over ahead of %d: want %d: %+v, not %+v", call, over, i, got, want)
				}
			}
		}
	}
}

// R4: calls under way beside each other, over the same cells and over others, want what each wants alone.
func TestCallsApart(t *testing.T) {
	seed := strewn(3)
	for range 300 {
		type life struct {
			x     *counter.Machine
			wants []api.Want
			read  int64
			at    int
		}
		var lives []*life
		for range 2 + seed.below(4) {
			base, most, i := seed.below(3), 1+seed.below(3), seed.below(4)
			l := &life{read: seed.word()}
			d := seed.word()
			if seed.below(2) == 0 {
				l.x = made(t, base, most, api.CallGet, int64(i))
				l.wants = []api.Want{read(base + i), done(l.read)}
			} else {
				l.x = made(t, base, most, api.CallAdd, int64(i), d)
				l.wants = []api.Want{read(base + i), write(base+i, l.read+d), done(l.read + d)}
			}
			if i >= most {
				l.wants = []api.Want{none()}
			}
			lives = append(lives, l)
		}
		for range 30 {
			l := lives[seed.below(len(lives))]
			v := seed.word()
			if l.at == 1 {
				v = l.read
			}
			want := l.wants[min(l.at, len(l.wants)-1)]
			if got := l.x.Next(v); got != want {
				t.Fatalf("want %d: %+v, not %+v", l.at, got, want)
			}
			l.at++
		}
	}
}

// R4: a call that was refused leaves those under way, and those that come behind it, as they are.
func TestRefusedBesideOthers(t *testing.T) {
	x := made(t, 10, 3, api.CallAdd, 2, 5)
	refused(t, 10, 3, api.CallAdd, 1)
	if got := x.Next(0); got != read(12) {
		t.Errorf("the first want: %+v", got)
	}
	refused(t, 10, 3, api.CallPut, 1)
	tell(t, made(t, 4, 1, api.CallGet, 0), 0, []api.Want{read(4), done(1)}, 1)
	if got := x.Next(7); got != write(12, 12) {
		t.Errorf("the second want: %+v", got)
	}
}

// run does a call over cells, up to its end.
func run(t *testing.T, cells []int64, x *counter.Machine) (int64, int) {
	t.Helper()
	v := int64(-99)
	for range 3 {
		w := x.Next(v)
		v = -99
		switch w.Kind {
		case api.WantRead:
			v = cells[w.Cell]
		case api.WantWrite:
			cells[w.Cell] = w.Value
		case api.WantDone:
			return w.Value, w.Code
		default:
			t.Fatalf("no such want: %+v", w)
		}
	}
	t.Fatal("it comes to no end")
	return 0, 0
}

// P15.2, P15.3: rows that lie beside each other in cells, each held against a plain row.
func TestRowsInCells(t *testing.T) {
	const rows = 4
	seed := strewn(4)
	for most := 0; most <= 16; most++ {
		cells := make([]int64, rows*most)
		plain := make([][]int64, rows)
		for row := range plain {
			plain[row] = make([]int64, most)
		}
		for range 300 {
			row, i, d := seed.below(rows), seed.below(most+2)-1, seed.word()
			add := seed.below(2) == 0
			x := made(t, row*most, most, api.CallGet, int64(i))
			if add {
				x = made(t, row*most, most, api.CallAdd, int64(i), d)
			}
			want, code := int64(0), api.CodeNone
			if i >= 0 && i < most {
				if add {
					plain[row][i] += d
				}
				want, code = plain[row][i], api.CodeOK
			}
			if v, c := run(t, cells, x); v != want || c != code {
				t.Fatalf("most %d, row %d, counter %d: %d, code %d, not %d, %d", most, row, i, v, c, want, code)
			}
			for r, values := range plain {
				got, why := counter.Shape(most, cells[r*most:(r+1)*most])
				if why != api.OK || got.Kind != api.KindCounter || !slices.Equal(got.Values, values) || len(got.Pairs) != 0 {
					t.Fatalf("most %d, row %d: %+v, error %d, not %v", most, r, got, why, values)
				}
			}
		}
	}
}

// P15.3: each capacity, with any words.
func TestShape(t *testing.T) {
	words := edgeWords()
	for most := 0; most <= 16; most++ {
		for from := range words {
			cells := make([]int64, most)
			for i := range cells {
				cells[i] = words[(from+i)%len(words)]
			}
			before := slices.Clone(cells)
			got, why := counter.Shape(most, cells)
			if why != api.OK || got.Kind != api.KindCounter || !slices.Equal(got.Values, before) || len(got.Pairs) != 0 {
				t.Errorf("Shape(%d, %v): %+v, error %d", most, before, got, why)
			}
			if !slices.Equal(cells, before) {
				t.Errorf("Shape(%d, %v): the cells became %v", most, before, cells)
			}
		}
	}
	if got, why := counter.Shape(0, nil); why != api.OK || got.Kind != api.KindCounter || len(got.Values) != 0 || len(got.Pairs) != 0 {
		t.Errorf("Shape(0, nil): %+v, error %d", got, why)
	}
}

// shapeRefused: such cells say nothing.
func shapeRefused(t *testing.T, most int, cells []int64) {
	t.Helper()
	if got, why := counter.Shape(most, cells); why != api.ErrArg || got.Kind != 0 || len(got.Values) != 0 || len(got.Pairs) != 0 {
		t.Errorf("Shape(%d, %v): %+v, error %d", most, cells, got, why)
	}
}

// P15.3: one cell too few and one too many, and any other number; and capacities that may not be, however many cells there are.
func TestShapeRefuses(t *testing.T) {
	for most := 0; most <= 16; most++ {
		for count := range 40 {
			if count != most {
				shapeRefused(t, most, make([]int64, count))
			}
		}
		if most > 0 {
			shapeRefused(t, most, nil)
			// Spare room holds no cells.
			shapeRefused(t, most, make([]int64, most-1, most))
		}
	}
	for _, most := range noCapacities() {
		for count := range 40 {
			shapeRefused(t, most, make([]int64, count))
		}
		shapeRefused(t, most, nil)
		if most > 0 && most <= 1<<16+3 {
			shapeRefused(t, most, make([]int64, most))
		}
	}
}

// R3: the cells and the answer, with the spare room of both, are apart, and so are two answers.
func TestShapesApart(t *testing.T) {
	for most := 0; most <= 16; most++ {
		room := make([]int64, most+4)
		for i := range room {
			room[i] = int64(i + 1)
		}
		before := slices.Clone(room)
		cells := room[:most]
		one, _ := counter.Shape(most, cells)
		two, _ := counter.Shape(most, cells)
		for i := range cap(one.Values) {
			one.Values[:cap(one.Values)][i] = -1
		}
		_ = append(one.Values, -2)
		if !slices.Equal(room, before) {
			t.Errorf("most %d: the cells became %v", most, room)
		}
		if !slices.Equal(two.Values, before[:most]) {
			t.Errorf("most %d: the other answer became %v", most, two.Values)
		}
		for i := range room {
			room[i] = -3
		}
		if !slices.Equal(two.Values, before[:most]) {
			t.Errorf("most %d: behind other cells the answer is %v", most, two.Values)
		}
	}
}

// R4: what is told hangs on what was handed in alone: the same once more.
func TestSameAgain(t *testing.T) {
	tellAll := func() string {
		text := ""
		for _, call := range []int{api.CallAdd, api.CallGet} {
			for i := range 4 {
				args := arguments(countOf(call))
				args[0] = int64(i)
				x := made(t, 5, 3, call, args...)
				for _, v := range []int64{1, 2, 3, 4} {
					text += fmt.Sprint(x.Next(v), " ")
				}
			}
		}
		return text
	}
	if one, two := tellAll(), tellAll(); one != two {
		t.Errorf("first %s, then %s", one, two)
	}
}
