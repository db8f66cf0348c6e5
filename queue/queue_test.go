package queue_test

import (
	"fmt"
	"math"
	"math/big"
	"slices"
	"testing"

	"carousel/api"
	"carousel/queue"
)

// The wants of a call.
func read(cell int) api.Want { return api.Want{Kind: api.WantRead, Cell: cell} }
func write(cell int, v int64) api.Want {
	return api.Want{Kind: api.WantWrite, Cell: cell, Value: v}
}
func done(v int64) api.Want { return api.Want{Kind: api.WantDone, Value: v, Code: api.CodeOK} }
func full() api.Want        { return api.Want{Kind: api.WantDone, Code: api.CodeFull} }
func none() api.Want        { return api.Want{Kind: api.WantDone, Code: api.CodeNone} }

// made is a machine that must be there.
func made(t *testing.T, base, most, call int, args ...int64) *queue.Machine {
	t.Helper()
	x, why := queue.New(base, most, call, args...)
	if x == nil || why != api.OK {
		t.Fatalf("New(%d, %d, %d, %v): %v, error %d", base, most, call, args, x, why)
	}
	return x
}

// strewn gives numbers that are spread out, the same ones each time.
type strewn uint64

func (s *strewn) word() int64 {
	*s = *s*6364136223846793005 + 1442695040888963407
	high := uint64(*s >> 32)
	*s = *s*6364136223846793005 + 1442695040888963407
	return int64(high<<32 | uint64(*s>>32))
}

func (s *strewn) below(n int) int {
	return int(uint64(s.word()) % uint64(n))
}

// edgeWords are words at which a sum, a rest, a sign or a narrower number would show.
func edgeWords() []int64 {
	words := []int64{
		math.MinInt64, math.MinInt64 + 1, -1 << 62, math.MinInt32 - 1, math.MinInt32, -256, -255,
		255, 256, 257, math.MaxInt32, 1 << 31, math.MaxUint32, 1 << 32, 1<<32 + 1, 1 << 62, math.MaxInt64 - 1, math.MaxInt64,
	}
	for w := int64(-18); w <= 18; w++ {
		words = append(words, w)
	}
	return words
}

// calls are those that a queue has, each with how many arguments it has.
func calls() []struct{ call, count int } {
	return []struct{ call, count int }{{api.CallPut, 1}, {api.CallGet, 0}, {api.CallLen, 0}}
}

// bases are those at both ends, and some between.
func bases() []int {
	return []int{0, 1, 2, 10, 255, 256, 511, 1000, 1006, 1007, 1022, 1023, 1024}
}

// noCapacities are numbers that no capacity is.
func noCapacities() []int {
	return []int{math.MinInt, math.MinInt32, -1 << 32, -16, -3, -2, -1, 17, 18, 32, 255, 256, 256 + 3, 1024, 1 << 16, 1<<16 + 3, 1 << 32, 1<<32 + 3, math.MaxInt32, math.MaxInt}
}

// behind is the slot behind FIRST by k, reckoned with numbers of any size.
func behind(first int64, k int64, most int) int {
	sum := new(big.Int).SetUint64(uint64(first))
	sum.Add(sum, big.NewInt(k))
	return int(sum.Mod(sum, big.NewInt(int64(most))).Int64())
}

// wantsOf are all wants of a call, with the word that is handed in behind each, by the words of P16.2: f and l are what FIRST and LEN say, v what a put puts, or what a get reads of its slot.
func wantsOf(base, most, call int, f, l, v int64) ([]api.Want, []int64) {
	wants := []api.Want{read(base), read(base + 1)}
	words := []int64{f, l}
	n := int64(most)
	switch {
	case call == api.CallLen:
		wants = append(wants, done(l))
	case call == api.CallPut && (l < 0 || l >= n):
		wants = append(wants, full())
	case call == api.CallPut:
		wants = append(wants, write(base+2+behind(f, l, most), v), write(base+1, l+1), done(0))
		words = append(words, -77, 78)
	case l == 0 || n == 0:
		wants = append(wants, none())
	default:
		wants = append(wants, read(base+2+behind(f, 0, most)), write(base, int64(behind(f, 1, most))), write(base+1, l-1), done(v))
		words = append(words, v, 79, -80)
	}
	return wants, words
}

// tell holds all that a machine wants against what was to be told: behind each want it is handed the word that stands beside it.
func tell(t *testing.T, x *queue.Machine, handed int64, wants []api.Want, words ...int64) {
	t.Helper()
	v := handed
	for i, want := range wants {
		if got := x.Next(v); got != want {
			t.Fatalf("want %d of %+v, handed %d: %+v", i, wants, v, got)
		}
		if i < len(words) {
			v = words[i]
		}
	}
	for i, v := range []int64{9, 0, -1, math.MinInt64, math.MaxInt64, 9} {
		if got, want := x.Next(v), wants[len(wants)-1]; got != want {
			t.Fatalf("further Next %d, handed %d: %+v, not %+v", i, v, got, want)
		}
	}
}

// holds holds one call, over what FIRST and LEN say, against the words of P16.2.
func holds(t *testing.T, base, most, call int, f, l, v int64) {
	t.Helper()
	args := []int64{v}
	if call != api.CallPut {
		args = nil
	}
	wants, words := wantsOf(base, most, call, f, l, v)
	tell(t, made(t, base, most, call, args...), v+1, wants, words...)
}

// P16.2, P16.3: the chapter's examples.
func TestExamples(t *testing.T) {
	tell(t, made(t, 0, 2, api.CallPut, 9), 0, []api.Want{read(0), read(1), write(2, 9), write(1, 2), done(0)}, 1, 1, 0, 0)
	tell(t, made(t, 0, 2, api.CallPut, 5), 0, []api.Want{read(0), read(1), full()}, 1, 2)
	tell(t, made(t, 0, 2, api.CallGet), 0, []api.Want{read(0), read(1), read(3), write(0, 0), write(1, 1), done(7)}, 1, 2, 7, 0, 0)
	tell(t, made(t, 0, 2, api.CallGet), 0, []api.Want{read(0), read(1), read(3), write(0, 0), write(1, 0), done(7)}, -1, 1, 7, 0, 0)
	tell(t, made(t, 0, 2, api.CallPut, 9), 0, []api.Want{read(0), read(1), write(2, 9), write(1, 2), done(0)}, -1, 1, 0, 0)
	shapes(t, 2, []int64{1, 1, 0, 7}, []int64{7})
	shapeRefused(t, 2, []int64{2, 0, 0, 0}, api.ErrRange)
	shapes(t, 0, []int64{0, 0}, nil)
}

// P16.1: each capacity, and what is none.
func TestSize(t *testing.T) {
	for most := 0; most <= 16; most++ {
		if got := queue.Size(most); got != most+2 {
			t.Errorf("Size(%d): %d", most, got)
		}
	}
	for _, most := range noCapacities() {
		if got := queue.Size(most); got != 0 {
			t.Errorf("Size(%d): %d", most, got)
		}
	}
}

// P16.2: each call over queues of every length and every FIRST, wherever they lie; also behind the last cell that a memory may have.
func TestEachQueue(t *testing.T) {
	for _, base := range bases() {
		for most := 0; most <= 16; most++ {
			for first := range max(most, 1) {
				for length := 0; length <= most; length++ {
					for _, c := range calls() {
						holds(t, base, most, c.call, int64(first), int64(length), int64(100*first-length))
					}
				}
			}
		}
	}
}

// P16.2: each call over any words of FIRST and LEN, of any values, with each capacity.
func TestAnyWords(t *testing.T) {
	for most := 0; most <= 16; most++ {
		for _, f := range edgeWords() {
			for _, l := range edgeWords() {
				for _, c := range calls() {
					holds(t, 5, most, c.call, f, l, f-l)
				}
			}
		}
	}
	for _, v := range edgeWords() {
		holds(t, 5, 3, api.CallPut, 2, 1, v)
		holds(t, 5, 3, api.CallGet, 2, 1, v)
	}
	seed := strewn(1)
	for range 3000 {
		most := seed.below(17)
		l := seed.word()
		if seed.below(2) == 0 {
			l = int64(seed.below(most + 1))
		}
		for _, c := range calls() {
			holds(t, seed.below(1025), most, c.call, seed.word(), l, seed.word())
		}
	}
}

// P16.2, Cells: FIRST as a word and k together are a whole number, which beyond 2^64 doesn't go round; told as numbers.
func TestBeyondAWord(t *testing.T) {
	for _, s := range []struct {
		most int
		f, l int64
		slot int
	}{
		{2, -1, 0, 1}, {2, -1, 1, 0},
		{3, -1, 0, 0}, {3, -1, 1, 1}, {3, -1, 2, 2},
		{3, -2, 0, 2}, {3, -2, 1, 0}, {3, -2, 2, 1},
		{5, -1, 0, 0}, {5, -1, 1, 1}, {5, -1, 4, 4},
		{6, -1, 0, 3}, {6, -1, 1, 4}, {6, -1, 5, 2},
		{7, -1, 0, 1}, {7, -1, 1, 2}, {7, -1, 6, 0},
		{7, -6, 5, 1}, {7, -6, 6, 2},
		{16, -1, 15, 14},
		{3, math.MinInt64, 0, 2}, {3, math.MinInt64, 2, 1}, {3, math.MaxInt64, 0, 1}, {3, math.MaxInt64, 1, 2}, {3, math.MaxInt64, 2, 0},
		{10, math.MinInt64, 0, 8}, {10, math.MaxInt64, 0, 7}, {10, math.MaxInt64, 9, 6},
	} {
		tell(t, made(t, 0, s.most, api.CallPut, 6), 0, []api.Want{read(0), read(1), write(2+s.slot, 6), write(1, s.l+1), done(0)}, s.f, s.l, 0, 0)
	}
	for _, s := range []struct {
		most int
		f    int64
		slot int
		next int64
	}{
		{1, -1, 0, 0}, {2, -1, 1, 0}, {3, -1, 0, 1}, {3, -2, 2, 0}, {6, -1, 3, 4}, {7, -1, 1, 2}, {16, -1, 15, 0}, {16, -2, 14, 15},
		{3, math.MinInt64, 2, 0}, {3, math.MaxInt64, 1, 2}, {10, math.MinInt64, 8, 9}, {10, math.MaxInt64, 7, 8},
	} {
		tell(t, made(t, 0, s.most, api.CallGet), 0, []api.Want{read(0), read(1), read(2 + s.slot), write(0, s.next), write(1, 0), done(6)}, s.f, 1, 6, 0, 0)
	}
}

// P16.2: a queue is full from the length n on, and below 0; told for each capacity.
func TestFull(t *testing.T) {
	for most := 0; most <= 16; most++ {
		n := int64(most)
		for _, l := range []int64{n, n + 1, n + 2, 2 * n, 17, 256 + n, 1 << 32, 1<<32 + n, math.MaxInt64, -1, -2, -17, -1 << 32, math.MinInt64, math.MinInt64 + 1} {
			if l >= 0 && l < n {
				continue
			}
			for _, f := range []int64{0, -1, n, math.MinInt64} {
				tell(t, made(t, 3, most, api.CallPut, 5), 0, []api.Want{read(3), read(4), full()}, f, l)
			}
		}
		if most > 0 {
			tell(t, made(t, 3, most, api.CallPut, 5), 0, []api.Want{read(3), read(4), write(5+most-1, 5), write(4, n), done(0)}, 0, n-1, 0, 0)
		}
	}
}

// P16.2: what a get takes of lengths that no queue has: all but 0 are as if there were something, and one less is told.
func TestGetOfAnyLength(t *testing.T) {
	for most := 0; most <= 16; most++ {
		tell(t, made(t, 3, most, api.CallGet), 0, []api.Want{read(3), read(4), none()}, 0, 0)
		if most == 0 {
			continue
		}
		for _, s := range []struct{ l, less int64 }{
			{1, 0}, {2, 1}, {17, 16}, {-1, -2}, {1 << 32, 1<<32 - 1}, {math.MaxInt64, math.MaxInt64 - 1}, {math.MinInt64, math.MaxInt64}, {math.MinInt64 + 1, math.MinInt64},
		} {
			next := int64(1 % most)
			tell(t, made(t, 3, most, api.CallGet), 0, []api.Want{read(3), read(4), read(5), write(3, next), write(4, s.less), done(8)}, 0, s.l, 8, 0, 0)
		}
	}
}

// P16.2: a length is told whatever it is.
func TestAnyLength(t *testing.T) {
	for most := 0; most <= 16; most++ {
		for _, l := range edgeWords() {
			tell(t, made(t, 3, most, api.CallLen), 0, []api.Want{read(3), read(4), done(l)}, 1, l)
		}
	}
}

// P16.2: a capacity of 0: each call reads FIRST and LEN; a put is full, a get finds none, a length is told, whatever they say.
func TestNoSlots(t *testing.T) {
	for _, base := range bases() {
		for _, f := range edgeWords() {
			for _, l := range edgeWords() {
				tell(t, made(t, base, 0, api.CallPut, 5), 0, []api.Want{read(base), read(base + 1), full()}, f, l)
				tell(t, made(t, base, 0, api.CallGet), 0, []api.Want{read(base), read(base + 1), none()}, f, l)
				tell(t, made(t, base, 0, api.CallLen), 0, []api.Want{read(base), read(base + 1), done(l)}, f, l)
			}
		}
	}
}

// P16.2: what the first Next is handed, and those behind a write, doesn't count; what those behind a read are handed does.
func TestWhatDoesNotCount(t *testing.T) {
	for _, w := range edgeWords() {
		tell(t, made(t, 4, 3, api.CallLen), w, []api.Want{read(4), read(5), done(2)}, 1, 2)
		tell(t, made(t, 4, 3, api.CallGet), w, []api.Want{read(4), read(5), none()}, 1, 0)
		tell(t, made(t, 4, 3, api.CallPut, 5), w, []api.Want{read(4), read(5), full()}, 1, 3)
		for _, u := range edgeWords() {
			tell(t, made(t, 4, 3, api.CallPut, 5), -w, []api.Want{read(4), read(5), write(6, 5), write(5, 3), done(0)}, 1, 2, w, u)
			tell(t, made(t, 4, 3, api.CallGet), -w, []api.Want{read(4), read(5), read(7), write(4, 2), write(5, 1), done(7)}, 1, 2, 7, w, u)
		}
	}
}

// P16.2: behind the end each further Next tells the same, again and again, whatever it is handed.
func TestBehindTheEnd(t *testing.T) {
	seed := strewn(2)
	for _, c := range calls() {
		for _, l := range []int64{-1, 0, 1, 2, 3, 4} {
			args := []int64{9}[:c.count]
			x := made(t, 1, 3, c.call, args...)
			wants, words := wantsOf(1, 3, c.call, 2, l, 9)
			tell(t, x, 4, wants, words...)
			for i := range 500 {
				if got := x.Next(seed.word()); got != wants[len(wants)-1] {
					t.Fatalf("call %d, length %d, further Next %d: %+v", c.call, l, i, got)
				}
			}
		}
	}
}

// R4: calls under way beside each other, over the same cells and over others, want what each wants alone.
func TestCallsApart(t *testing.T) {
	seed := strewn(3)
	for range 300 {
		type life struct {
			x     *queue.Machine
			wants []api.Want
			words []int64
			at    int
		}
		var lives []*life
		for range 2 + seed.below(4) {
			c := calls()[seed.below(3)]
			base, most, v := seed.below(3), seed.below(5), seed.word()
			f, l := int64(seed.below(6)-1), int64(seed.below(6)-1)
			next := &life{x: made(t, base, most, c.call, []int64{v}[:c.count]...)}
			next.wants, next.words = wantsOf(base, most, c.call, f, l, v)
			lives = append(lives, next)
		}
		for range 40 {
			now := lives[seed.below(len(lives))]
			v := seed.word()
			if now.at > 0 && now.at <= len(now.words) {
				v = now.words[now.at-1]
			}
			want := now.wants[min(now.at, len(now.wants)-1)]
			if got := now.x.Next(v); got != want {
				t.Fatalf("want %d: %+v, not %+v", now.at, got, want)
			}
			now.at++
		}
	}
}

// R4: what is told hangs on what was handed in alone: the same once more.
func TestSameAgain(t *testing.T) {
	tellAll := func() string {
		text := ""
		for _, c := range calls() {
			for most := range 4 {
				x := made(t, 5, most, c.call, []int64{8}[:c.count]...)
				for _, v := range []int64{3, 1, 2, 4, 5, 6, 7} {
					text += fmt.Sprint(x.Next(v), " ")
				}
			}
		}
		return text
	}
	if one, two := tellAll(), tellAll(); one != two {
		t.Errorf("first %s, then %s", one, two)
	}
}

// R3: arguments are not written into, nor their spare room, and may be written over between any two wants.
func TestArgumentsAreTheirOwners(t *testing.T) {
	for _, c := range calls() {
		wants, words := wantsOf(10, 3, c.call, 2, 1, 5)
		for over := range len(wants) + 1 {
			room := []int64{5, 76, 77, 78}
			x := made(t, 10, 3, c.call, room[:c.count]...)
			for i, want := range wants {
				if i == over {
					copy(room, []int64{-100, -1, -1, -1})
				} else if i < over && !slices.Equal(room, []int64{5, 76, 77, 78}) {
					t.Fatalf("call %d: the arguments became %v", c.call, room)
				}
				v := int64(0)
				if i > 0 {
					v = words[i-1]
				}
				if got := x.Next(v); got != want {
					t.Errorf("call %d, written over ahead of %d: want %d: %+v, not %+v", c.call, over, i, got, want)
				}
			}
		}
	}
}
