package dict_test

import (
	"fmt"
	"math"
	"math/big"
	"slices"
	"testing"

	"carousel/api"
	"carousel/dict"
)

// The wants of a call.
func read(cell int) api.Want { return api.Want{Kind: api.WantRead, Cell: cell} }
func write(cell int, v int64) api.Want {
	return api.Want{Kind: api.WantWrite, Cell: cell, Value: v}
}
func done(v int64) api.Want { return api.Want{Kind: api.WantDone, Value: v, Code: api.CodeOK} }
func full() api.Want        { return api.Want{Kind: api.WantDone, Code: api.CodeFull} }
func none() api.Want        { return api.Want{Kind: api.WantDone, Code: api.CodeNone} }

// made is a machine that must be there.
func made(t *testing.T, base, most, call int, args ...int64) *dict.Machine {
	t.Helper()
	x, why := dict.New(base, most, call, args...)
	if x == nil || why != api.OK {
		t.Fatalf("New(%d, %d, %d, %v): %v, error %d", base, most, call, args, x, why)
	}
	return x
}

// strewn gives numbers that are spread out, the same ones each time.
type strewn uint64

func (s *strewn) word() int64 {
	*s = *s*6364136223846793005 + 1442695040888963407
	high := uint64(*s >> 32)
	*s = *s*6364136223846793005 + 1442695040888963407
	return int64(high<<32 | uint64(*s>>32))
}

func (s *strewn) below(n int) int {
	return int(uint64(s.word()) % uint64(n))
}

// one is one of some words.
func (s *strewn) one(words []int64) int64 { return words[s.below(len(words))] }

// edgeWords are words at which a sum, a sign or a narrower number would show.
func edgeWords() []int64 {
	words := []int64{
		math.MinInt64, math.MinInt64 + 1, -1 << 62, math.MinInt32 - 1, math.MinInt32, -256, -255,
		255, 256, 257, math.MaxInt32, 1 << 31, math.MaxUint32, 1 << 32, 1<<32 + 1, 1 << 62, math.MaxInt64 - 1, math.MaxInt64,
	}
	for w := int64(-18); w <= 18; w++ {
		words = append(words, w)
	}
	return words
}

// goneWords are states of slots that are GONE.
func goneWords() []int64 {
	return slices.DeleteFunc(edgeWords(), func(w int64) bool { return w == 0 || w == 1 })
}

// calls are those that a dict has, each with how many arguments it has.
func calls() []struct{ call, count int } {
	return []struct{ call, count int }{{api.CallGet, 1}, {api.CallPut, 2}, {api.CallDel, 1}, {api.CallLen, 0}}
}

// bases are those at both ends, and some between.
func bases() []int {
	return []int{0, 1, 2, 10, 255, 256, 511, 975, 976, 1000, 1022, 1023, 1024}
}

// noCapacities are numbers that no capacity is.
func noCapacities() []int {
	return []int{math.MinInt, math.MinInt32, -1 << 32, -16, -3, -2, -1, 17, 18, 32, 255, 256, 256 + 3, 1024, 1 << 16, 1<<16 + 3, 1 << 32, 1<<32 + 3, math.MaxInt32, math.MaxInt}
}

// firstSlot is where a key's way begins, reckoned with numbers of any size.
func firstSlot(key int64, most int) int {
	spread, _ := new(big.Int).SetString("9E3779B97F4A7C15", 16)
	word := new(big.Int).SetUint64(uint64(key))
	word.Mul(word, spread)
	word.Mod(word, new(big.Int).Lsh(big.NewInt(1), 64))
	word.Rsh(word, 32)
	word.Mul(word, big.NewInt(int64(most)))
	return int(word.Rsh(word, 32).Int64())
}

// wayOf are the slots of a key's way.
func wayOf(key int64, most int) []int {
	var way []int
	first := firstSlot(key, most)
	for k := range most {
		way = append(way, (first+k)%most)
	}
	return way
}

// look is what looking a key up came to: -1 stands for no slot.
type look struct {
	reads       []int // cells, from 0 on
	found, free int
}

// lookUp looks a key up in cells, by the words of the chapter.
func lookUp(key int64, most int, cells []int64) look {
	l := look{found: -1, free: -1}
	for _, slot := range wayOf(key, most) {
		at := 1 + 3*slot
		l.reads = append(l.reads, at)
		state := cells[at]
		if state != 1 && l.free < 0 {
			l.free = slot
		}
		if state == 0 {
			return l
		}
		if state == 1 {
			l.reads = append(l.reads, at+1)
			if cells[at+1] == key {
				l.found = slot
				return l
			}
		}
	}
	return l
}

// wantsOf are all wants of a call over cells, with the word that is handed in behind each, by the words of P17.2: k and v are what it is given.
func wantsOf(base, most, call int, k, v int64, cells []int64) ([]api.Want, []int64) {
	var wants []api.Want
	var words []int64
	reads := func(cell int) {
		wants, words = append(wants, read(base+cell)), append(words, cells[cell])
	}
	writes := func(cell int, v int64) {
		wants, words = append(wants, write(base+cell, v)), append(words, int64(1-len(words)%3))
	}
	ends := func(end api.Want) ([]api.Want, []int64) { return append(wants, end), words }
	if call == api.CallLen {
		reads(0)
		return ends(done(cells[0]))
	}
	l := lookUp(k, most, cells)
	for _, cell := range l.reads {
		reads(cell)
	}
	at, free := 1+3*l.found, 1+3*l.free
	switch {
	case call == api.CallGet && l.found >= 0:
		reads(at + 2)
		return ends(done(cells[at+2]))
	case call == api.CallDel && l.found >= 0:
		writes(at, 2)
		reads(0)
		writes(0, cells[0]-1)
	case call != api.CallPut:
		return ends(none())
	case l.found >= 0:
		writes(at+2, v)
	default:
		reads(0)
		if cells[0] >= int64(most) || l.free < 0 {
			return ends(full())
		}
		writes(free, 1)
		writes(free+1, k)
		writes(free+2, v)
		writes(0, cells[0]+1)
	}
	return ends(done(0))
}

// tell holds all that a machine wants against what was to be told: behind each want it is handed the word that stands beside it.
func tell(t *testing.T, x *dict.Machine, handed int64, wants []api.Want, words ...int64) {
	t.Helper()
	v := handed
	for i, want := range wants {
		if got := x.Next(v); got != want {
			t.Fatalf("want %d of %+v, handed %d: %+v", i, wants, v, got)
		}
		if i < len(words) {
			v = words[i]
		}
	}
	for i, v := range []int64{9, 0, 1, -1, math.MinInt64, math.MaxInt64, 9} {
		if got, want := x.Next(v), wants[len(wants)-1]; got != want {
			t.Fatalf("further Next %d, handed %d: %+v, not %+v", i, v, got, want)
		}
	}
}

// holds holds one call over cells against the words of P17.2.
func holds(t *testing.T, base, most, call, count int, k, v int64, cells []int64) {
	t.Helper()
	wants, words := wantsOf(base, most, call, k, v, cells)
	tell(t, made(t, base, most, call, []int64{k, v}[:count]...), k+v, wants, words...)
}

// allHold does so for each call.
func allHold(t *testing.T, base, most int, k, v int64, cells []int64) {
	t.Helper()
	for _, c := range calls() {
		holds(t, base, most, c.call, c.count, k, v, cells)
	}
}

// laid are cells of a dict of so many keys, each in some slot where it would be found, with slots that are EMPTY and GONE between, whose keys and values are any; and what it holds.
func laid(seed *strewn, most, length int) ([]int64, map[int64]int64) {
	cells, holds := make([]int64, 1+3*most), map[int64]int64{}
	for i := range cells {
		if i%3 != 1 {
			cells[i] = seed.word() >> seed.below(64)
			continue
		}
		if seed.below(2) == 0 {
			cells[i] = 2
		}
	}
	for len(holds) < length {
		key := seed.word() >> seed.below(64)
		if _, twice := holds[key]; twice {
			continue
		}
		at := 1 + 3*seed.mayStand(key, most, cells)
		value := seed.word()
		cells[at], cells[at+1], cells[at+2] = 1, key, value
		holds[key] = value
	}
	cells[0] = int64(length)
	return cells, holds
}

// mayStand is a slot where a key would be found, if it stood there.
func (s *strewn) mayStand(key int64, most int, cells []int64) int {
	var slots []int
	for _, slot := range wayOf(key, most) {
		state := cells[1+3*slot]
		if state != 1 {
			slots = append(slots, slot)
		}
		if state == 0 {
			break
		}
	}
	return slots[s.below(len(slots))]
}

// some is a key that is there, mostly; or else one that is not, or is a key of a slot that is not THERE.
func (s *strewn) some(most int, cells []int64) int64 {
	if most == 0 || s.below(4) == 0 {
		return s.word() >> s.below(64)
	}
	return cells[2+3*s.below(most)]
}

// P17.2, P17.4: the chapter's examples, one behind the other.
func TestExamples(t *testing.T) {
	for key, slot := range []int{0, 2, 0, 3, 1, 0} {
		if got := made(t, 0, 4, api.CallGet, int64(key)).Next(0); got != read(1+3*slot) {
			t.Errorf("the first slot of %d: %+v", key, got)
		}
	}
	tell(t, made(t, 0, 4, api.CallPut, 1, 10), 0,
		[]api.Want{read(7), read(0), write(7, 1), write(8, 1), write(9, 10), write(0, 1), done(0)}, 0, 0, 0, 0, 0, 0)
	tell(t, made(t, 0, 4, api.CallPut, 2, 20), 0,
		[]api.Want{read(1), read(0), write(1, 1), write(2, 2), write(3, 20), write(0, 2), done(0)}, 0, 1, 0, 0, 0, 0)
	tell(t, made(t, 0, 4, api.CallPut, 5, 50), 0,
		[]api.Want{read(1), read(2), read(4), read(0), write(4, 1), write(5, 5), write(6, 50), write(0, 3), done(0)}, 1, 2, 0, 2, 0, 0, 0, 0)
	tell(t, made(t, 0, 4, api.CallDel, 2), 0,
		[]api.Want{read(1), read(2), write(1, 2), read(0), write(0, 2), done(0)}, 1, 2, 0, 3, 0)
	tell(t, made(t, 0, 4, api.CallGet, 5), 0,
		[]api.Want{read(1), read(4), read(5), read(6), done(50)}, 2, 1, 5, 50)
	tell(t, made(t, 0, 4, api.CallPut, 2, 21), 0,
		[]api.Want{read(1), read(4), read(5), read(7), read(8), read(10), read(0), write(1, 1), write(2, 2), write(3, 21), write(0, 3), done(0)},
		2, 1, 5, 1, 1, 0, 2, 0, 0, 0, 0)
	tell(t, made(t, 0, 4, api.CallGet, 4), 0,
		[]api.Want{read(4), read(5), read(7), read(8), read(10), none()}, 1, 5, 1, 1, 0)
}

// P17.1: each capacity, and what is none.
func TestSize(t *testing.T) {
	for most := 0; most <= 16; most++ {
		if got := dict.Size(most); got != 3*most+1 {
			t.Errorf("Size(%d): %d", most, got)
		}
	}
	for _, most := range noCapacities() {
		if got := dict.Size(most); got != 0 {
			t.Errorf("Size(%d): %d", most, got)
		}
	}
}

// Cells: where the ways of keys begin, told as numbers.
func TestFirstSlots(t *testing.T) {
	capacities := []int{1, 2, 3, 4, 5, 7, 8, 11, 15, 16}
	for _, s := range []struct {
		key   int64
		slots []int
	}{
		{0, []int{0, 0, 0, 0, 0, 0, 0, 0, 0, 0}},
		{1, []int{0, 1, 1, 2, 3, 4, 4, 6, 9, 9}},
		{2, []int{0, 0, 0, 0, 1, 1, 1, 2, 3, 3}},
		{3, []int{0, 1, 2, 3, 4, 5, 6, 9, 12, 13}},
		{4, []int{0, 0, 1, 1, 2, 3, 3, 5, 7, 7}},
		{5, []int{0, 0, 0, 0, 0, 0, 0, 0, 1, 1}},
		{-1, []int{0, 0, 1, 1, 1, 2, 3, 4, 5, 6}},
		{-2, []int{0, 1, 2, 3, 3, 5, 6, 8, 11, 12}},
		{7, []int{0, 0, 0, 1, 1, 2, 2, 3, 4, 5}},
		{16, []int{0, 1, 2, 3, 4, 6, 7, 9, 13, 14}},
		{255, []int{0, 1, 1, 2, 2, 4, 4, 6, 8, 9}},
		{256, []int{0, 0, 0, 0, 1, 1, 1, 2, 3, 3}},
		{1 << 31, []int{0, 1, 2, 2, 3, 5, 5, 8, 11, 11}},
		{1 << 32, []int{0, 0, 1, 1, 2, 3, 3, 5, 7, 7}},
		{1<<32 + 1, []int{0, 0, 0, 0, 0, 0, 0, 1, 1, 1}},
		{math.MinInt32, []int{0, 0, 0, 1, 1, 1, 2, 2, 3, 4}},
		{1 << 62, []int{0, 0, 0, 1, 1, 1, 2, 2, 3, 4}},
		{math.MaxInt64, []int{0, 1, 2, 3, 4, 6, 7, 9, 13, 14}},
		{math.MinInt64, []int{0, 1, 1, 2, 2, 3, 4, 5, 7, 8}},
		{math.MinInt64 + 1, []int{0, 0, 0, 0, 0, 0, 0, 1, 1, 1}},
	} {
		for i, most := range capacities {
			for _, c := range calls()[:3] {
				x := made(t, 5, most, c.call, []int64{s.key, 9}[:c.count]...)
				if got := x.Next(0); got != read(6+3*s.slots[i]) {
					t.Errorf("capacity %d, key %d: %+v, not the slot %d", most, s.key, got, s.slots[i])
				}
			}
		}
	}
}

// Cells: the way of a key goes over all slots, once each, behind the last one on to the slot 0, where all are GONE, and where all are THERE.
func TestWays(t *testing.T) {
	for most := 1; most <= 16; most++ {
		for key := int64(-40); key <= 40; key++ {
			var gone, there []api.Want
			var goneWords, thereWords []int64
			for _, slot := range wayOf(key, most) {
				gone, goneWords = append(gone, read(8+3*slot)), append(goneWords, 2)
				there, thereWords = append(there, read(8+3*slot), read(9+3*slot)), append(thereWords, 1, key+1)
			}
			tell(t, made(t, 7, most, api.CallGet, key), 0, append(gone, none()), goneWords...)
			tell(t, made(t, 7, most, api.CallDel, key), 0, append(there, none()), thereWords...)
		}
	}
}

// P17.2: each call over dicts of every capacity and every length, with slots that are EMPTY, THERE and GONE, wherever they lie; also behind the last cell that a memory may have.
func TestEachDict(t *testing.T) {
	seed := strewn(1)
	for _, base := range bases() {
		for most := 0; most <= 16; most++ {
			for length := 0; length <= most; length++ {
				for range 3 {
					cells, holds := laid(&seed, most, length)
					for key := range holds {
						allHold(t, base, most, key, seed.word(), cells)
					}
					for range 4 {
						allHold(t, base, most, seed.some(most, cells), seed.word(), cells)
					}
				}
			}
		}
	}
}

// P17.2: each call over any words: states, keys, values and COUNT, of each capacity.
func TestAnyWords(t *testing.T) {
	seed := strewn(2)
	states := append(edgeWords(), 0, 0, 0, 1, 1, 1, 1, 1, 1, 1, 1, 1, 1, 1, 1, 1, 1, 1, 1, 2, 2, 3)
	for most := 0; most <= 16; most++ {
		for range 1500 {
			cells := make([]int64, 1+3*most)
			for i := range cells {
				switch i % 3 {
				case 0:
					cells[i] = seed.one(edgeWords())
				case 1:
					cells[i] = seed.one(states)
				case 2:
					cells[i] = int64(seed.below(2 * most))
				}
			}
			base := seed.below(1025)
			allHold(t, base, most, seed.some(most, cells), seed.word(), cells)
			allHold(t, base, most, seed.one(edgeWords()), seed.one(edgeWords()), cells)
			for i := range cells {
				if i%3 != 1 {
					cells[i] = seed.word()
				}
			}
			allHold(t, base, most, seed.some(most, cells), seed.word(), cells)
		}
	}
}

// Cells: a state of any word but 0 and 1 is that of a slot that is GONE: its key isn't read, the way goes on, and it is free.
func TestAnyStates(t *testing.T) {
	for _, gone := range goneWords() {
		tell(t, made(t, 0, 4, api.CallGet, 2), 2, []api.Want{read(1), read(4), none()}, gone, 0)
		tell(t, made(t, 0, 4, api.CallGet, 2), 2, []api.Want{read(1), read(4), read(5), read(6), done(8)}, gone, 1, 2, 8)
		tell(t, made(t, 0, 4, api.CallPut, 2, 9), 2,
			[]api.Want{read(1), read(4), read(0), write(1, 1), write(2, 2), write(3, 9), write(0, 4), done(0)}, gone, 0, 3, 0, 0, 0, 0)
		tell(t, made(t, 0, 4, api.CallDel, 2), 2, []api.Want{read(1), read(4), read(5), write(4, 2), read(0), write(0, 0), done(0)}, gone, 1, 2, 0, 1, 0)
		tell(t, made(t, 0, 4, api.CallDel, 2), 2, []api.Want{read(1), read(4), read(7), read(10), none()}, gone, gone, gone, gone)
	}
}

// Cells: the same key is FOUND whatever it is, and no other one is.
func TestAnyKeys(t *testing.T) {
	for _, key := range edgeWords() {
		at := 1 + 3*firstSlot(key, 5)
		next := 1 + 3*((firstSlot(key, 5)+1)%5)
		for _, other := range edgeWords() {
			if other == key {
				tell(t, made(t, 0, 5, api.CallGet, key), 0, []api.Want{read(at), read(at + 1), read(at + 2), done(7)}, 1, other, 7)
				tell(t, made(t, 0, 5, api.CallPut, key, 6), 0, []api.Want{read(at), read(at + 1), write(at+2, 6), done(0)}, 1, other, 0)
				continue
			}
			tell(t, made(t, 0, 5, api.CallGet, key), 0, []api.Want{read(at), read(at + 1), read(next), none()}, 1, other, 0)
			tell(t, made(t, 0, 5, api.CallPut, key, 6), 0,
				[]api.Want{read(at), read(at + 1), read(next), read(0), write(next, 1), write(next+1, key), write(next+2, 6), write(0, 2), done(0)}, 1, other, 0, 1, 0, 0, 0, 0)
		}
	}
}

// P17.2: COUNT of any words: from n on a put is full, also where a slot is free; below, also below 0, it is not, and one more is told.
func TestPutOfAnyCount(t *testing.T) {
	for most := 1; most <= 16; most++ {
		n := int64(most)
		at := 1 + 3*firstSlot(3, most)
		for _, state := range []int64{0, 2} {
			reads, words := []api.Want{read(at)}, []int64{state}
			if state != 0 {
				for _, slot := range wayOf(3, most)[1:] {
					reads, words = append(reads, read(1+3*slot)), append(words, state)
				}
			}
			reads = append(reads, read(0))
			for _, c := range []int64{n, n + 1, 2*n + 1, 17, 256 + n, 1 << 32, 1<<32 + n - 1, math.MaxInt64 - 1, math.MaxInt64} {
				tell(t, made(t, 0, most, api.CallPut, 3, 4), 0, append(slices.Clone(reads), full()), append(slices.Clone(words), c)...)
			}
			for _, c := range []int64{n - 1, 0, -1, -2, -17, -1 << 32, math.MinInt64 + 1, math.MinInt64} {
				wants := append(slices.Clone(reads), write(at, 1), write(at+1, 3), write(at+2, 4), write(0, c+1), done(0))
				tell(t, made(t, 0, most, api.CallPut, 3, 4), 0, wants, append(slices.Clone(words), c, 0, 0, 0, 0)...)
			}
		}
	}
}

// P17.2: COUNT of any words: a del tells one less, which goes round at the least one; a len tells it as it is; a get and a put of a key that is there don't ask.
func TestAnyCount(t *testing.T) {
	for _, c := range edgeWords() {
		less := c - 1
		if c == math.MinInt64 {
			less = math.MaxInt64
		}
		tell(t, made(t, 0, 4, api.CallDel, 2), 0, []api.Want{read(1), read(2), write(1, 2), read(0), write(0, less), done(0)}, 1, 2, 0, c, 0)
		for most := 0; most <= 16; most++ {
			tell(t, made(t, 6, most, api.CallLen), 0, []api.Want{read(6), done(c)}, c)
		}
		allHold(t, 0, 4, 2, 5, []int64{c, 1, 2, 3, 0, 0, 0, 0, 0, 0, 0, 0, 0})
		allHold(t, 0, 4, 2, 5, []int64{c, 1, 0, 3, 1, 2, 0, 0, 0, 0, 0, 0, 0})
	}
}

// P17.2: a way without an EMPTY slot, with one slot or none that is GONE: it is over behind its last slot, and a put takes what is free.
func TestNoEmptySlot(t *testing.T) {
	for most := 1; most <= 16; most++ {
		for key := int64(0); key < 20; key++ {
			way := wayOf(key, most)
			cells := make([]int64, 1+3*most)
			for slot := range most {
				cells[1+3*slot], cells[2+3*slot] = 1, 1000+int64(slot)
			}
			for _, c := range []int64{int64(most) - 1, int64(most), -1} {
				cells[0] = c
				wants, _ := wantsOf(3, most, api.CallPut, key, 9, cells)
				if len(wants) != 2*most+2 || wants[len(wants)-1] != full() {
					t.Fatalf("capacity %d: without a free slot: %+v", most, wants)
				}
				allHold(t, 3, most, key, 9, cells)
			}
			for _, slot := range way {
				cells[0] = int64(most) - 1
				cells[1+3*slot] = 2
				wants, _ := wantsOf(3, most, api.CallPut, key, 9, cells)
				if len(wants) != 2*most+5 || wants[2*most] != write(4+3*slot, 1) {
					t.Fatalf("capacity %d, the slot %d is GONE: %+v", most, slot, wants)
				}
				allHold(t, 3, most, key, 9, cells)
				cells[1+3*slot] = 1
			}
		}
	}
}

// P17.2: a slot that is GONE ahead of the key's own slot: a put of that key changes its value where it stands; it takes the free slot only if the key isn't there. Of several slots the first one on the way is free.
func TestFreeAheadOfTheKey(t *testing.T) {
	// With the capacity 4 the way of 5 is the slots 0 1 2 3, that of 3 is 3 0 1 2.
	tell(t, made(t, 0, 4, api.CallPut, 5, 9), 0, []api.Want{read(1), read(4), read(5), write(6, 9), done(0)}, 2, 1, 5, 0)
	tell(t, made(t, 0, 4, api.CallPut, 5, 9), 0, []api.Want{read(1), read(4), read(7), read(10), read(11), write(12, 9), done(0)}, 2, 2, 3, 1, 5, 0)
	tell(t, made(t, 0, 4, api.CallDel, 5), 0, []api.Want{read(1), read(4), read(5), write(4, 2), read(0), write(0, 2), done(0)}, 2, 1, 5, 0, 3, 0)
	tell(t, made(t, 0, 4, api.CallPut, 3, 9), 0, []api.Want{read(10), read(1), read(2), write(3, 9), done(0)}, 2, 1, 3, 0)
	tell(t, made(t, 0, 4, api.CallPut, 3, 9), 0,
		[]api.Want{read(10), read(11), read(1), read(4), read(7), read(0), write(1, 1), write(2, 3), write(3, 9), write(0, 2), done(0)}, 1, 7, 2, 2, 0, 1, 0, 0, 0, 0)
	tell(t, made(t, 0, 4, api.CallPut, 3, 9), 0,
		[]api.Want{read(10), read(1), read(4), read(5), read(7), read(0), write(10, 1), write(11, 3), write(12, 9), write(0, 2), done(0)}, 2, 3, 1, 8, 0, 1, 0, 0, 0, 0)
}

// P17.2: a capacity of 0: a get and a del find none and read nothing; a put reads COUNT and is full, and a length is told, whatever it says.
func TestNoSlots(t *testing.T) {
	for _, base := range bases() {
		for _, w := range edgeWords() {
			for _, k := range []int64{0, 1, w} {
				tell(t, made(t, base, 0, api.CallGet, k), w, []api.Want{none()})
				tell(t, made(t, base, 0, api.CallDel, k), w, []api.Want{none()})
				tell(t, made(t, base, 0, api.CallPut, k, 5), 0, []api.Want{read(base), full()}, w)
			}
			tell(t, made(t, base, 0, api.CallLen), 0, []api.Want{read(base), done(w)}, w)
		}
	}
}

// P17.2: what the first Next is handed, and those behind a write, doesn't count; what those behind a read are handed does.
func TestWhatDoesNotCount(t *testing.T) {
	for _, w := range edgeWords() {
		tell(t, made(t, 4, 4, api.CallLen), w, []api.Want{read(4), done(2)}, 2)
		tell(t, made(t, 4, 4, api.CallGet, 2), w, []api.Want{read(5), none()}, 0)
		tell(t, made(t, 4, 4, api.CallGet, 2), w, []api.Want{read(5), read(6), read(7), done(3)}, 1, 2, 3)
		tell(t, made(t, 4, 4, api.CallPut, 2, 9), w, []api.Want{read(5), read(4), full()}, 0, 4)
		for _, u := range edgeWords() {
			tell(t, made(t, 4, 4, api.CallPut, 2, 9), u, []api.Want{read(5), read(6), write(7, 9), done(0)}, 1, 2, w)
			tell(t, made(t, 4, 4, api.CallPut, 2, 9), -w, []api.Want{read(5), read(4), write(5, 1), write(6, 2), write(7, 9), write(4, 4), done(0)}, 0, 3, w, u, -w, w-u)
			tell(t, made(t, 4, 4, api.CallDel, 2), -w, []api.Want{read(5), read(6), write(5, 2), read(4), write(4, 2), done(0)}, 1, 2, w, 3, u)
		}
	}
}

// P17.2: behind the end each further Next tells the same, again and again, whatever it is handed.
func TestBehindTheEnd(t *testing.T) {
	seed := strewn(3)
	for _, c := range calls() {
		for _, state := range []int64{0, 1, 2} {
			for most := range 5 {
				for _, count := range []int64{0, 9} {
					cells := make([]int64, 1+3*most)
					cells[0] = count
					for slot := range most {
						cells[1+3*slot], cells[2+3*slot] = state, int64(slot)
					}
					x := made(t, 1, most, c.call, []int64{2, 7}[:c.count]...)
					wants, words := wantsOf(1, most, c.call, 2, 7, cells)
					tell(t, x, 4, wants, words...)
					for i := range 200 {
						if got := x.Next(seed.one(edgeWords())); got != wants[len(wants)-1] {
							t.Fatalf("call %d, further Next %d: %+v", c.call, i, got)
						}
					}
				}
			}
		}
	}
}

// R4: calls under way beside each other, over the same cells and over others, want what each wants alone.
func TestCallsApart(t *testing.T) {
	seed := strewn(4)
	for range 300 {
		type life struct {
			x     *dict.Machine
			wants []api.Want
			words []int64
			at    int
		}
		var lives []*life
		for range 2 + seed.below(4) {
			c := calls()[seed.below(4)]
			base, most := seed.below(3), seed.below(6)
			cells, _ := laid(&seed, most, seed.below(most+1))
			k, v := seed.some(most, cells), seed.word()
			next := &life{x: made(t, base, most, c.call, []int64{k, v}[:c.count]...)}
			next.wants, next.words = wantsOf(base, most, c.call, k, v, cells)
			lives = append(lives, next)
		}
		for range 60 {
			now := lives[seed.below(len(lives))]
			v := seed.word()
			if now.at > 0 && now.at <= len(now.words) {
				v = now.words[now.at-1]
			}
			want := now.wants[min(now.at, len(now.wants)-1)]
			if got := now.x.Next(v); got != want {
				t.Fatalf("want %d: %+v, not %+v", now.at, got, want)
			}
			now.at++
		}
	}
}

// R4: what is told hangs on what was handed in alone: the same once more.
func TestSameAgain(t *testing.T) {
	tellAll := func() string {
		text := ""
		for _, c := range calls() {
			for most := range 5 {
				x := made(t, 5, most, c.call, []int64{3, 8}[:c.count]...)
				for _, v := range []int64{3, 1, 2, 2, 1, 3, 7, 0, 0, 0} {
					text += fmt.Sprint(x.Next(v), " ")
				}
			}
		}
		return text
	}
	if one, two := tellAll(), tellAll(); one != two {
		t.Errorf("first %s, then %s", one, two)
	}
}

// R3: arguments are not written into, nor their spare room, and may be written over between any two wants.
func TestArgumentsAreTheirOwners(t *testing.T) {
	seed := strewn(5)
	for range 50 {
		cells, _ := laid(&seed, 4, seed.below(5))
		k := seed.some(4, cells)
		for _, c := range calls() {
			wants, words := wantsOf(10, 4, c.call, k, 5, cells)
			for over := range len(wants) + 1 {
				room := []int64{k, 5, 77, 78}
				x := made(t, 10, 4, c.call, room[:c.count]...)
				for i, want := range wants {
					if i == over {
						copy(room, []int64{k + 1, -1, -1, -1})
					} else if i < over && !slices.Equal(room, []int64{k, 5, 77, 78}) {
						t.Fatalf("call %d: the arguments became %v", c.call, room)
					}
					v := int64(0)
					if i > 0 {
						v = words[i-1]
					}
					if got := x.Next(v); got != want {
						t.Errorf("call %d, written over ahead of %d: want %d: %+v, not %+v", c.call, over, i, got, want)
					}
				}
			}
		}
	}
}
