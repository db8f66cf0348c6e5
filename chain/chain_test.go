package chain_test

import (
	"fmt"
	"math"
	"slices"
	"testing"

	"carousel/api"
	"carousel/chain"
)

// The wants of a call.
func read(cell int) api.Want { return api.Want{Kind: api.WantRead, Cell: cell} }
func write(cell int, v int64) api.Want {
	return api.Want{Kind: api.WantWrite, Cell: cell, Value: v}
}
func done(v int64) api.Want { return api.Want{Kind: api.WantDone, Value: v, Code: api.CodeOK} }
func full() api.Want        { return api.Want{Kind: api.WantDone, Code: api.CodeFull} }
func none() api.Want        { return api.Want{Kind: api.WantDone, Code: api.CodeNone} }
func there() api.Want       { return api.Want{Kind: api.WantDone, Code: api.CodeThere} }

// made is a machine that must be there.
func made(t *testing.T, base, most, call int, args ...int64) *chain.Machine {
	t.Helper()
	x, why := chain.New(base, most, call, args...)
	if x == nil || why != api.OK {
		t.Fatalf("New(%d, %d, %d, %v): %v, error %d", base, most, call, args, x, why)
	}
	return x
}

// strewn gives numbers that are spread out, the same ones each time.
type strewn uint64

func (s *strewn) word() int64 {
	*s = *s*6364136223846793005 + 1442695040888963407
	high := uint64(*s >> 32)
	*s = *s*6364136223846793005 + 1442695040888963407
	return int64(high<<32 | uint64(*s>>32))
}

func (s *strewn) below(n int) int {
	return int(uint64(s.word()) % uint64(n))
}

// one is one of some words.
func (s *strewn) one(words []int64) int64 { return words[s.below(len(words))] }

// mixed are the numbers from 1 to n, in some order.
func (s *strewn) mixed(n int) []int {
	numbers := make([]int, n)
	for i := range numbers {
		k := s.below(i + 1)
		numbers[i], numbers[k] = numbers[k], i+1
	}
	return numbers
}

// edgeWords are words at which a sum, a sign or a narrower number would show.
func edgeWords() []int64 {
	words := []int64{
		math.MinInt64, math.MinInt64 + 1, -1 << 62, math.MinInt32 - 1, math.MinInt32, -256, -255,
		255, 256, 257, math.MaxInt32, 1 << 31, math.MaxUint32, 1 << 32, 1<<32 + 1, 1 << 62, math.MaxInt64 - 1, math.MaxInt64,
	}
	for w := int64(-18); w <= 18; w++ {
		words = append(words, w)
	}
	return words
}

// noLinks are words that lead to none of so many nodes.
func noLinks(most int) []int64 {
	return slices.DeleteFunc(edgeWords(), func(w int64) bool { return w >= 1 && w <= int64(most) })
}

// calls are those that a chain has, each with how many arguments it has.
func calls() []struct{ call, count int } {
	return []struct{ call, count int }{
		{api.CallAdd, 1}, {api.CallDel, 1}, {api.CallHas, 1}, {api.CallLeast, 0}, {api.CallNext, 1}, {api.CallLen, 0},
	}
}

// bases are those at both ends, and some between.
func bases() []int {
	return []int{0, 1, 2, 10, 255, 256, 511, 989, 990, 1000, 1022, 1023, 1024}
}

// noCapacities are numbers that no capacity is.
func noCapacities() []int {
	return []int{math.MinInt, math.MinInt32, -1 << 32, -16, -3, -2, -1, 17, 18, 32, 255, 256, 256 + 3, 1024, 1 << 16, 1<<16 + 3, 1 << 32, 1<<32 + 3, math.MaxInt32, math.MaxInt}
}

// telling is what a call wants, by the words of the chapter.
type telling struct {
	base, most int
	give       func(cell int) int64 // what is read there
	wants      []api.Want
	words      []int64 // what is handed in behind each want
}

func (c *telling) reads(cell int) int64 {
	v := c.give(cell)
	c.wants, c.words = append(c.wants, read(c.base+cell)), append(c.words, v)
	return v
}

// writes are answered by words that do not count.
func (c *telling) writes(cell int, v int64) {
	c.wants, c.words = append(c.wants, write(c.base+cell, v)), append(c.words, int64(2-len(c.words)%4))
}

// leads: does that link lead to a node?
func (c *telling) leads(link int64) bool {
	for node := range c.most {
		if link == int64(node)+1 {
			return true
		}
	}
	return false
}

// where is what going to a key came to.
type where struct {
	cell        int
	p, key      int64
	at, stopped bool
}

// goes goes to the key k.
func (c *telling) goes(k int64) where {
	end := where{cell: 0, p: c.reads(0)}
	for come := 0; c.leads(end.p) && come < c.most; come++ {
		end.key = c.reads(1 + 2*int(end.p))
		if end.key == k {
			end.at = true
		}
		if end.key > k || end.at {
			end.stopped = true
			break
		}
		end.cell = 2 + 2*int(end.p)
		end.p = c.reads(end.cell)
	}
	return end
}

// adds is a CallAdd, up to its end.
func (c *telling) adds(k int64) api.Want {
	end := c.goes(k)
	if end.at {
		return there()
	}
	node := int64(0)
	if f := c.reads(1); c.leads(f) {
		node = f
		q := c.reads(2 + 2*int(f))
		c.writes(1, q)
	} else {
		u := c.reads(2)
		if u < 0 || u > int64(c.most)-1 {
			return full()
		}
		node = u + 1
		c.writes(2, u+1)
	}
	c.writes(1+2*int(node), k)
	c.writes(2+2*int(node), end.p)
	c.writes(end.cell, node)
	return done(0)
}

// dels is a CallDel, up to its end.
func (c *telling) dels(k int64) api.Want {
	end := c.goes(k)
	if !end.at {
		return none()
	}
	node := end.p
	q := c.reads(2 + 2*int(node))
	c.writes(end.cell, q)
	f := c.reads(1)
	c.writes(2+2*int(node), f)
	c.writes(1, node)
	return done(0)
}

// asks is any other call, up to its end.
func (c *telling) asks(call int, k int64) api.Want {
	switch call {
	case api.CallHas:
		if c.goes(k).at {
			return done(1)
		}
		return done(0)
	case api.CallLeast:
		if p := c.reads(0); c.leads(p) {
			return done(c.reads(1 + 2*int(p)))
		}
		return none()
	case api.CallNext:
		end := c.goes(k)
		if end.at {
			if p := c.reads(2 + 2*int(end.p)); c.leads(p) {
				return done(c.reads(1 + 2*int(p)))
			}
			return none()
		}
		if end.stopped {
			return done(end.key)
		}
		return none()
	}
	come := int64(0)
	for p := c.reads(0); c.leads(p) && come < int64(c.most); come++ {
		p = c.reads(2 + 2*int(p))
	}
	return done(come)
}

// wantsOf are all wants of a call, with the word that is handed in behind each, by the words of P18.2: k is what it is given, give what is read.
func wantsOf(base, most, call int, k int64, give func(cell int) int64) ([]api.Want, []int64) {
	c := &telling{base: base, most: most, give: give}
	var end api.Want
	switch call {
	case api.CallAdd:
		end = c.adds(k)
	case api.CallDel:
		end = c.dels(k)
	default:
		end = c.asks(call, k)
	}
	return append(c.wants, end), c.words
}

// over gives what cells hold.
func over(cells []int64) func(cell int) int64 {
	return func(cell int) int64 { return cells[cell] }
}

// tell holds all that a machine wants against what was to be told: behind each want it is handed the word that stands beside it.
func tell(t *testing.T, x *chain.Machine, handed int64, wants []api.Want, words ...int64) {
	t.Helper()
	v := handed
	for i, want := range wants {
		if got := x.Next(v); got != want {
			t.Fatalf("want %d of %+v, handed %d: %+v", i, wants, v, got)
		}
		if i < len(words) {
			v = words[i]
		}
	}
	for i, v := range []int64{9, 0, 1, -1, math.MinInt64, math.MaxInt64, 9} {
		if got, want := x.Next(v), wants[len(wants)-1]; got != want {
			t.Fatalf("further Next %d, handed %d: %+v, not %+v", i, v, got, want)
		}
	}
}

// holds holds one call against the words of P18.2.
func holds(t *testing.T, base, most, call, count int, k int64, give func(cell int) int64) {
	t.Helper()
	wants, words := wantsOf(base, most, call, k, give)
	tell(t, made(t, base, most, call, []int64{k}[:count]...), k+1, wants, words...)
}

// allHold does so for each call over the same cells.
func allHold(t *testing.T, base, most int, k int64, cells []int64) {
	t.Helper()
	for _, c := range calls() {
		holds(t, base, most, c.call, c.count, k, over(cells))
	}
}

// laid are cells of a chain of so many keys, with so many nodes that were taken out, all in some order, and any words elsewhere; and its keys.
func laid(seed *strewn, most, length, free int) ([]int64, []int64) {
	cells := make([]int64, 3+2*most)
	for i := range cells {
		cells[i] = seed.word() >> seed.below(64)
	}
	var keys []int64
	for len(keys) < length {
		if key := seed.word() >> seed.below(64); !slices.Contains(keys, key) {
			keys = append(keys, key)
		}
	}
	slices.Sort(keys)
	nodes := seed.mixed(length + free)
	link(cells, 0, nodes[:length])
	link(cells, 1, nodes[length:])
	for i, key := range keys {
		cells[1+2*nodes[i]] = key
	}
	cells[2] = int64(length + free)
	return cells, keys
}

// link makes links lead from a cell over nodes to 0.
func link(cells []int64, cell int, nodes []int) {
	for _, node := range nodes {
		cells[cell] = int64(node)
		cell = 2 + 2*node
	}
	cells[cell] = 0
}

// around are keys that are there, and such as are ahead of each, behind each, and at the ends.
func around(seed *strewn, keys []int64) []int64 {
	all := []int64{math.MinInt64, -1, 0, 1, math.MaxInt64, seed.word()}
	for _, key := range keys {
		all = append(all, key-1, key, key+1)
	}
	return all
}

// P18.2, P18.4: the chapter's examples, one behind the other.
func TestExamples(t *testing.T) {
	tell(t, made(t, 0, 3, api.CallAdd, 5), 0,
		[]api.Want{read(0), read(1), read(2), write(2, 1), write(3, 5), write(4, 0), write(0, 1), done(0)}, 0, 0, 0, 0, 0, 0, 0)
	tell(t, made(t, 0, 3, api.CallAdd, 3), 0,
		[]api.Want{read(0), read(3), read(1), read(2), write(2, 2), write(5, 3), write(6, 1), write(0, 2), done(0)}, 1, 5, 0, 1, 0, 0, 0, 0)
	tell(t, made(t, 0, 3, api.CallAdd, 5), 0,
		[]api.Want{read(0), read(5), read(6), read(3), there()}, 2, 3, 1, 5)
	tell(t, made(t, 0, 3, api.CallDel, 3), 0,
		[]api.Want{read(0), read(5), read(6), write(0, 1), read(1), write(6, 0), write(1, 2), done(0)}, 2, 3, 1, 0, 0, 0, 0)
	tell(t, made(t, 0, 3, api.CallAdd, 9), 0,
		[]api.Want{read(0), read(3), read(4), read(1), read(6), write(1, 0), write(5, 9), write(6, 0), write(4, 2), done(0)}, 1, 5, 0, 2, 0, 0, 0, 0, 0)
	tell(t, made(t, 0, 3, api.CallNext, 5), 0, []api.Want{read(0), read(3), read(4), read(5), done(9)}, 1, 5, 2, 9)
	tell(t, made(t, 0, 3, api.CallNext, 9), 0, []api.Want{read(0), read(3), read(4), read(5), read(6), none()}, 1, 5, 2, 9, 0)
	tell(t, made(t, 0, 3, api.CallNext, 1), 0, []api.Want{read(0), read(3), done(5)}, 1, 5)
}

// P18.1: each capacity, and what is none.
func TestSize(t *testing.T) {
	for most := 0; most <= 16; most++ {
		if got := chain.Size(most); got != 2*most+3 {
			t.Errorf("Size(%d): %d", most, got)
		}
	}
	for _, most := range noCapacities() {
		if got := chain.Size(most); got != 0 {
			t.Errorf("Size(%d): %d", most, got)
		}
	}
}

// P18.2: each call over chains of every capacity and every length, with any number of nodes that were taken out: of each of their keys, and of keys ahead, between and behind.
func TestEachChain(t *testing.T) {
	seed := strewn(1)
	for most := 0; most <= 16; most++ {
		for length := 0; length <= most; length++ {
			for free := 0; length+free <= most; free++ {
				cells, keys := laid(&seed, most, length, free)
				for _, k := range around(&seed, keys) {
					allHold(t, bases()[seed.below(len(bases()))], most, k, cells)
				}
			}
		}
	}
}

// P18.2: a chain's cells lie from its base on, wherever that is; also behind the last cell that a memory may have.
func TestEachBase(t *testing.T) {
	seed := strewn(2)
	for _, base := range bases() {
		for most := 0; most <= 16; most++ {
			length := seed.below(most + 1)
			cells, keys := laid(&seed, most, length, seed.below(most-length+1))
			for _, k := range around(&seed, keys) {
				allHold(t, base, most, k, cells)
			}
		}
	}
}

// P18.2: each call is handed any words one behind the other, though they fit to no cells: a node that is come to again may have another key then.
func TestAnyWords(t *testing.T) {
	seed := strewn(3)
	ends := map[api.Want]int{}
	for most := 0; most <= 16; most++ {
		words := edgeWords()
		for range 8 * most {
			words = append(words, int64(1+seed.below(most)))
		}
		for range 1500 {
			for _, c := range calls() {
				k := seed.one(words)
				give := func(cell int) int64 {
					// Keys are mostly below the one that is gone to: so a way is seldom short.
					if cell > 2 && cell%2 == 1 && seed.below(12) > 0 {
						return k - int64(seed.below(5))
					}
					return seed.one(words)
				}
				wants, handed := wantsOf(7, most, c.call, k, give)
				tell(t, made(t, 7, most, c.call, []int64{k}[:c.count]...), seed.word(), wants, handed...)
				end := wants[len(wants)-1]
				end.Value = 0
				ends[end]++
			}
		}
	}
	for _, end := range []api.Want{done(0), none(), full(), there()} {
		if ends[end] < 100 {
			t.Errorf("the end %+v came %d times", end, ends[end])
		}
	}
}

// P18.2: each call over cells that hold any words: links that lead to nodes, mostly, and keys in any order.
func TestAnyCells(t *testing.T) {
	seed := strewn(4)
	for most := 0; most <= 16; most++ {
		links := append(edgeWords(), 0, 0)
		for range 12 * most {
			links = append(links, int64(1+seed.below(most)))
		}
		for range 600 {
			cells := make([]int64, 3+2*most)
			for i := range cells {
				cells[i] = seed.one(links)
				if i > 2 && i%2 == 1 {
					cells[i] = int64(seed.below(40))
				}
			}
			base := seed.below(1025)
			for _, k := range []int64{int64(seed.below(40)), 40, 100, -1, seed.one(edgeWords())} {
				allHold(t, base, most, k, cells)
			}
		}
	}
}

// Cells: a link of any word but 1 to n leads nowhere, in HEAD, in a NEXT and in FREE; what was read there is written on as it is.
func TestLinksThatLeadNowhere(t *testing.T) {
	for _, w := range noLinks(3) {
		tell(t, made(t, 0, 3, api.CallHas, 5), 1, []api.Want{read(0), done(0)}, w)
		tell(t, made(t, 0, 3, api.CallDel, 5), 1, []api.Want{read(0), none()}, w)
		tell(t, made(t, 0, 3, api.CallNext, 5), 1, []api.Want{read(0), none()}, w)
		tell(t, made(t, 0, 3, api.CallLeast), 1, []api.Want{read(0), none()}, w)
		tell(t, made(t, 0, 3, api.CallLen), 1, []api.Want{read(0), done(0)}, w)
		tell(t, made(t, 0, 3, api.CallAdd, 5), 1,
			[]api.Want{read(0), read(1), read(2), write(2, 1), write(3, 5), write(4, w), write(0, 1), done(0)}, w, 0, 0, 0, 0, 0, 0)

		tell(t, made(t, 0, 3, api.CallHas, 5), 1, []api.Want{read(0), read(5), read(6), done(0)}, 2, 4, w)
		tell(t, made(t, 0, 3, api.CallDel, 5), 1, []api.Want{read(0), read(5), read(6), none()}, 2, 4, w)
		tell(t, made(t, 0, 3, api.CallNext, 5), 1, []api.Want{read(0), read(5), read(6), none()}, 2, 4, w)
		tell(t, made(t, 0, 3, api.CallNext, 5), 1, []api.Want{read(0), read(5), read(6), none()}, 2, 5, w)
		tell(t, made(t, 0, 3, api.CallLen), 1, []api.Want{read(0), read(6), done(1)}, 2, w)
		tell(t, made(t, 0, 3, api.CallAdd, 5), 1,
			[]api.Want{read(0), read(5), read(6), read(1), read(8), write(1, 7), write(7, 5), write(8, w), write(6, 3), done(0)}, 2, 4, w, 3, 7, 0, 0, 0, 0)
		tell(t, made(t, 0, 3, api.CallDel, 5), 1,
			[]api.Want{read(0), read(5), read(6), write(0, w), read(1), write(6, 1), write(1, 2), done(0)}, 2, 5, w, 0, 1, 0, 0)

		tell(t, made(t, 0, 3, api.CallAdd, 5), 1,
			[]api.Want{read(0), read(1), read(2), write(2, 3), write(7, 5), write(8, 0), write(0, 3), done(0)}, 0, w, 2, 0, 0, 0, 0)
		tell(t, made(t, 0, 3, api.CallAdd, 5), 1, []api.Want{read(0), read(1), read(2), full()}, 0, w, 3)
		tell(t, made(t, 0, 3, api.CallDel, 5), 1,
			[]api.Want{read(0), read(3), read(4), write(0, 2), read(1), write(4, w), write(1, 1), done(0)}, 1, 5, 2, 0, w, 0, 0)
		tell(t, made(t, 0, 3, api.CallAdd, 5), 1,
			[]api.Want{read(0), read(1), read(6), write(1, w), write(5, 5), write(6, 0), write(0, 2), done(0)}, 0, 2, w, 0, 0, 0, 0)
	}
}

// Cells: the links 1 and n lead to a node with every capacity, 0 and n + 1 don't.
func TestFirstAndLastNode(t *testing.T) {
	for most := 1; most <= 16; most++ {
		n := int64(most)
		for _, node := range []int{1, most} {
			w := int64(node)
			tell(t, made(t, 9, most, api.CallLeast), 0, []api.Want{read(9), read(10 + 2*node), done(77)}, w, 77)
			tell(t, made(t, 9, most, api.CallHas, 5), 0, []api.Want{read(9), read(10 + 2*node), done(1)}, w, 5)
			tell(t, made(t, 9, most, api.CallAdd, 5), 0,
				[]api.Want{read(9), read(10), read(11 + 2*node), write(10, 6), write(10+2*node, 5), write(11+2*node, 0), write(9, w), done(0)}, 0, w, 6, 0, 0, 0, 0)
		}
		for _, w := range []int64{0, n + 1, -1, -n, 256 + n, 1<<32 + n, math.MinInt64 + n} {
			tell(t, made(t, 9, most, api.CallLeast), 1, []api.Want{read(9), none()}, w)
			tell(t, made(t, 9, most, api.CallHas, 5), 1, []api.Want{read(9), done(0)}, w)
			tell(t, made(t, 9, most, api.CallLen), 1, []api.Want{read(9), done(0)}, w)
			tell(t, made(t, 9, most, api.CallAdd, 5), 1, []api.Want{read(9), read(10), read(11), full()}, w, w, n)
		}
	}
}

// P18.2: links that lead round: the way ends behind n nodes, with the link at hand as it was read last.
func TestLinksThatLeadRound(t *testing.T) {
	for most := 1; most <= 16; most++ {
		for round := 1; round <= most; round++ {
			// The nodes 1 to round lead round.
			reads, words := []api.Want{read(0)}, []int64{1}
			lens, lenWords := []api.Want{read(0)}, []int64{1}
			node := 1
			for range most {
				next := node%round + 1
				reads, words = append(reads, read(1+2*node), read(2+2*node)), append(words, 4, int64(next))
				lens, lenWords = append(lens, read(2+2*node)), append(lenWords, int64(next))
				node = next
			}
			p, at := words[len(words)-1], reads[len(reads)-1].Cell
			tell(t, made(t, 0, most, api.CallLen), 0, append(lens, done(int64(most))), lenWords...)
			tell(t, made(t, 0, most, api.CallHas, 5), 0, append(slices.Clone(reads), done(0)), words...)
			tell(t, made(t, 0, most, api.CallDel, 5), 0, append(slices.Clone(reads), none()), words...)
			tell(t, made(t, 0, most, api.CallNext, 5), 0, append(slices.Clone(reads), none()), words...)
			tell(t, made(t, 0, most, api.CallAdd, 5), 0, append(slices.Clone(reads), read(1), read(2), full()), append(slices.Clone(words), 0, int64(most))...)
			tell(t, made(t, 0, most, api.CallAdd, 5), 0,
				append(slices.Clone(reads), read(1), read(2), write(2, 1), write(3, 5), write(4, p), write(at, 1), done(0)), append(slices.Clone(words), 0, 0, 0, 0, 0, 0)...)
		}
	}
}

// P18.2: behind n nodes the link at hand is not looked at, whatever it is: an add writes it on, and what lies there isn't read.
func TestBehindAllNodes(t *testing.T) {
	for _, w := range edgeWords() {
		reads := []api.Want{read(0), read(3), read(4), read(5), read(6)}
		words := []int64{1, 2, 2, 4, w}
		for _, ends := range []struct {
			call int
			end  api.Want
		}{{api.CallHas, done(0)}, {api.CallDel, none()}, {api.CallNext, none()}} {
			tell(t, made(t, 0, 2, ends.call, 5), 0, append(slices.Clone(reads), ends.end), words...)
		}
		tell(t, made(t, 0, 2, api.CallLen), 0, []api.Want{read(0), read(4), read(6), done(2)}, 1, 2, w)
		tell(t, made(t, 0, 2, api.CallAdd, 5), 0,
			append(slices.Clone(reads), read(1), read(4), write(1, 8), write(3, 5), write(4, w), write(6, 1), done(0)), append(slices.Clone(words), 1, 8, 0, 0, 0, 0)...)
		tell(t, made(t, 0, 2, api.CallAdd, 5), 0,
			append(slices.Clone(reads), read(1), read(2), write(2, 2), write(5, 5), write(6, w), write(6, 2), done(0)), append(slices.Clone(words), 0, 1, 0, 0, 0, 0)...)
		// The last of n nodes may stop the way: then its own NEXT counts.
		at := []api.Want{read(0), read(3), read(4), read(5)}
		tell(t, made(t, 0, 2, api.CallAdd, 5), 0, append(slices.Clone(at), there()), 1, 2, 2, 5)
		tell(t, made(t, 0, 2, api.CallNext, 5), 0, append(slices.Clone(at), done(6)), 1, 2, 2, 6)
		tell(t, made(t, 0, 2, api.CallDel, 5), 0,
			append(slices.Clone(at), read(6), write(4, w), read(1), write(6, 3), write(1, 2), done(0)), 1, 2, 2, 5, w, 0, 3, 0, 0)
	}
}

// P18.2: a next of a key at which one is tells the key that its NEXT leads to, whatever that key is, also behind n nodes.
func TestNextIsNotCompared(t *testing.T) {
	for _, w := range edgeWords() {
		tell(t, made(t, 0, 2, api.CallNext, 5), 0, []api.Want{read(0), read(5), read(6), read(3), done(w)}, 2, 5, 1, w)
		tell(t, made(t, 0, 2, api.CallNext, 5), 0, []api.Want{read(0), read(3), read(4), read(5), read(6), read(3), done(w)}, 1, 2, 2, 5, 1, w)
		tell(t, made(t, 0, 1, api.CallNext, 5), 0, []api.Want{read(0), read(3), read(4), read(3), done(w)}, 1, 5, 1, w)
	}
}

// Cells: keys of any words are compared as numbers with their sign: ahead of k one goes on, at k one stops, above it too.
func TestAnyKeys(t *testing.T) {
	for _, k := range edgeWords() {
		for _, key := range edgeWords() {
			switch {
			case key < k:
				tell(t, made(t, 0, 4, api.CallHas, k), 0, []api.Want{read(0), read(3), read(4), done(0)}, 1, key, 0)
				tell(t, made(t, 0, 4, api.CallNext, k), 0, []api.Want{read(0), read(3), read(4), none()}, 1, key, 0)
				tell(t, made(t, 0, 4, api.CallAdd, k), 0,
					[]api.Want{read(0), read(3), read(4), read(1), read(2), write(2, 2), write(5, k), write(6, 0), write(4, 2), done(0)}, 1, key, 0, 0, 1, 0, 0, 0, 0)
				tell(t, made(t, 0, 4, api.CallDel, k), 0, []api.Want{read(0), read(3), read(4), none()}, 1, key, 0)
			case key == k:
				tell(t, made(t, 0, 4, api.CallHas, k), 0, []api.Want{read(0), read(3), done(1)}, 1, key)
				tell(t, made(t, 0, 4, api.CallNext, k), 0, []api.Want{read(0), read(3), read(4), none()}, 1, key, 0)
				tell(t, made(t, 0, 4, api.CallAdd, k), 0, []api.Want{read(0), read(3), there()}, 1, key)
				tell(t, made(t, 0, 4, api.CallDel, k), 0,
					[]api.Want{read(0), read(3), read(4), write(0, 0), read(1), write(4, 0), write(1, 1), done(0)}, 1, key, 0, 0, 0, 0, 0)
			default:
				tell(t, made(t, 0, 4, api.CallHas, k), 0, []api.Want{read(0), read(3), done(0)}, 1, key)
				tell(t, made(t, 0, 4, api.CallNext, k), 0, []api.Want{read(0), read(3), done(key)}, 1, key)
				tell(t, made(t, 0, 4, api.CallAdd, k), 0,
					[]api.Want{read(0), read(3), read(1), read(2), write(2, 2), write(5, k), write(6, 1), write(0, 2), done(0)}, 1, key, 0, 1, 0, 0, 0, 0)
				tell(t, made(t, 0, 4, api.CallDel, k), 0, []api.Want{read(0), read(3), none()}, 1, key)
			}
		}
		tell(t, made(t, 0, 4, api.CallLeast), 0, []api.Want{read(0), read(5), done(k)}, 2, k)
	}
}

// P18.2: USED of any words: from 0 to n - 1 an add takes the node behind it; with any other one it is full.
func TestAnyUsed(t *testing.T) {
	for most := 1; most <= 16; most++ {
		n := int64(most)
		for _, u := range append(edgeWords(), n-1, n, n+1, 256+n-1, 1<<32+n-1) {
			if u < 0 || u >= n {
				tell(t, made(t, 3, most, api.CallAdd, 8), 0, []api.Want{read(3), read(4), read(5), full()}, 0, 0, u)
				tell(t, made(t, 3, most, api.CallAdd, 8), 0, []api.Want{read(3), read(6), read(4), read(5), full()}, 1, 9, -1, u)
				continue
			}
			key := 6 + 2*int(u)
			tell(t, made(t, 3, most, api.CallAdd, 8), 0,
				[]api.Want{read(3), read(4), read(5), write(5, u+1), write(key, 8), write(key+1, 0), write(3, u+1), done(0)}, 0, 0, u, 0, 0, 0, 0)
		}
	}
}

// P18.2: a chain that is full: an add of a key that is there tells so, of another one that it is full; and one that is empty, with nodes that were taken out and without.
func TestFullAndEmpty(t *testing.T) {
	seed := strewn(5)
	for most := 0; most <= 16; most++ {
		cells, keys := laid(&seed, most, most, 0)
		for _, k := range around(&seed, keys) {
			wants, _ := wantsOf(0, most, api.CallAdd, k, over(cells))
			want := full()
			if slices.Contains(keys, k) {
				want = there()
			}
			if end := wants[len(wants)-1]; end != want {
				t.Fatalf("add of %d to %v: %+v", k, keys, end)
			}
			allHold(t, 0, most, k, cells)
		}
		for free := range most + 1 {
			cells, _ = laid(&seed, most, 0, free)
			for _, k := range edgeWords() {
				allHold(t, 0, most, k, cells)
			}
			tell(t, made(t, 0, most, api.CallLen), 0, []api.Want{read(0), done(0)}, cells[0])
			tell(t, made(t, 0, most, api.CallLeast), 0, []api.Want{read(0), none()}, cells[0])
		}
	}
}

// P18.2: a capacity of 0: HEAD and FREE lead nowhere, whatever they say, and no USED leaves room.
func TestNoNodes(t *testing.T) {
	for _, base := range bases() {
		for _, w := range edgeWords() {
			for _, k := range []int64{0, 1, w} {
				tell(t, made(t, base, 0, api.CallHas, k), k, []api.Want{read(base), done(0)}, w)
				tell(t, made(t, base, 0, api.CallDel, k), k, []api.Want{read(base), none()}, w)
				tell(t, made(t, base, 0, api.CallNext, k), k, []api.Want{read(base), none()}, w)
				for _, u := range []int64{math.MinInt64, -1, 0, 1, 2, w, math.MaxInt64} {
					tell(t, made(t, base, 0, api.CallAdd, k), k, []api.Want{read(base), read(base + 1), read(base + 2), full()}, w, w, u)
				}
			}
			tell(t, made(t, base, 0, api.CallLeast), 1, []api.Want{read(base), none()}, w)
			tell(t, made(t, base, 0, api.CallLen), 1, []api.Want{read(base), done(0)}, w)
		}
	}
}

// P18.2: what the first Next is handed, and those behind a write, doesn't count.
func TestWhatDoesNotCount(t *testing.T) {
	for _, w := range edgeWords() {
		tell(t, made(t, 4, 4, api.CallLen), w, []api.Want{read(4), read(8), done(1)}, 1, 0)
		tell(t, made(t, 4, 4, api.CallLeast), w, []api.Want{read(4), read(7), done(3)}, 1, 3)
		tell(t, made(t, 4, 4, api.CallHas, 3), w, []api.Want{read(4), read(7), done(1)}, 1, 3)
		tell(t, made(t, 4, 4, api.CallNext, 2), w, []api.Want{read(4), read(7), done(3)}, 1, 3)
		for _, u := range edgeWords() {
			tell(t, made(t, 4, 4, api.CallAdd, 2), u,
				[]api.Want{read(4), read(7), read(5), read(6), write(6, 2), write(9, 2), write(10, 1), write(4, 2), done(0)}, 1, 3, 0, 1, w, u, -w, w-u)
			tell(t, made(t, 4, 4, api.CallAdd, 2), u,
				[]api.Want{read(4), read(7), read(5), read(12), write(5, 4), write(11, 2), write(12, 1), write(4, 3), done(0)}, 1, 3, 3, 4, u, w, u-w, -u)
			tell(t, made(t, 4, 4, api.CallDel, 3), u,
				[]api.Want{read(4), read(7), read(8), write(4, 2), read(5), write(8, 4), write(5, 1), done(0)}, 1, 3, 2, w, 4, u, -w)
		}
	}
}

// P18.2: behind the end each further Next tells the same, again and again, whatever it is handed.
func TestBehindTheEnd(t *testing.T) {
	seed := strewn(6)
	for _, c := range calls() {
		for most := range 5 {
			for length := range most + 1 {
				cells, keys := laid(&seed, most, length, seed.below(most-length+1))
				for _, k := range around(&seed, keys) {
					x := made(t, 1, most, c.call, []int64{k}[:c.count]...)
					wants, words := wantsOf(1, most, c.call, k, over(cells))
					tell(t, x, 4, wants, words...)
					for i := range 200 {
						if got := x.Next(seed.one(edgeWords())); got != wants[len(wants)-1] {
							t.Fatalf("call %d, further Next %d: %+v", c.call, i, got)
						}
					}
				}
			}
		}
	}
}

// R4: calls under way beside each other, over the same cells and over others, want what each wants alone.
func TestCallsApart(t *testing.T) {
	seed := strewn(7)
	for range 400 {
		type life struct {
			x     *chain.Machine
			wants []api.Want
			words []int64
			at    int
		}
		var lives []*life
		for range 2 + seed.below(4) {
			c := calls()[seed.below(len(calls()))]
			base, most := seed.below(3), seed.below(6)
			length := seed.below(most + 1)
			cells, keys := laid(&seed, most, length, seed.below(most-length+1))
			k := seed.one(around(&seed, keys))
			next := &life{x: made(t, base, most, c.call, []int64{k}[:c.count]...)}
			next.wants, next.words = wantsOf(base, most, c.call, k, over(cells))
			lives = append(lives, next)
		}
		for range 60 {
			now := lives[seed.below(len(lives))]
			v := seed.word()
			if now.at > 0 && now.at <= len(now.words) {
				v = now.words[now.at-1]
			}
			want := now.wants[min(now.at, len(now.wants)-1)]
			if got := now.x.Next(v); got != want {
				t.Fatalf("want %d: %+v, not %+v", now.at, got, want)
			}
			now.at++
		}
	}
}

// R4: what is told hangs on what was handed in alone: the same once more.
func TestSameAgain(t *testing.T) {
	tellAll := func() string {
		text := ""
		for _, c := range calls() {
			for most := range 5 {
				x := made(t, 5, most, c.call, []int64{3}[:c.count]...)
				for _, v := range []int64{3, 1, 2, 2, 1, 3, 7, 0, 0, 0} {
					text += fmt.Sprint(x.Next(v), " ")
				}
			}
		}
		return text
	}
	if one, two := tellAll(), tellAll(); one != two {
		t.Errorf("first %s, then %s", one, two)
	}
}

// R3: arguments are not written into, nor their spare room, and may be written over between any two wants.
func TestArgumentsAreTheirOwners(t *testing.T) {
	seed := strewn(8)
	for range 50 {
		length := seed.below(5)
		cells, keys := laid(&seed, 4, length, seed.below(5-length))
		k := seed.one(around(&seed, keys))
		for _, c := range calls() {
			wants, words := wantsOf(10, 4, c.call, k, over(cells))
			for behind := range len(wants) + 1 {
				room := []int64{k, 77, 78}
				x := made(t, 10, 4, c.call, room[:c.count]...)
				for i, want := range wants {
					if i == behind {
						copy(room, []int64{k + 1, -1, -1})
					} else if i < behind && !slices.Equal(room, []int64{k, 77, 78}) {
						t.Fatalf("call %d: the arguments became %v", c.call, room)
					}
					v := int64(0)
					if i > 0 {
						v = words[i-1]
					}
					if got := x.Next(v); got != want {
						t.Errorf("call %d, written over ahead of %d: want %d: %+v, not %+v", c.call, behind, i, got, want)
					}
				}
			}
		}
	}
}
