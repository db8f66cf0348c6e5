package back_test

import (
	"fmt"
	"iter"
	"math"
	"slices"
	"testing"

	"carousel/api"
	"carousel/back"
	"carousel/commit"
	"carousel/mem"
	"carousel/ring"
	"carousel/shift"
	"carousel/sig"
)

func newest() api.Addr                { return api.Addr{Kind: api.AddrNewest} }
func head(slot int) api.Addr          { return api.Addr{Kind: api.AddrHead, I: slot} }
func sigWord(slot, word int) api.Addr { return api.Addr{Kind: api.AddrSig, I: slot, J: word} }
func cellAt(cell int) api.Addr        { return api.Addr{Kind: api.AddrCell, I: cell} }

// The answers that a step has.
func none() api.Answer  { return api.Answer{} }
func waits() api.Answer { return api.Answer{Kind: api.AnsWait, Access: true} }
func moved() api.Answer { return api.Answer{Kind: api.AnsMoved, Access: true} }
func done() api.Answer  { return api.Answer{Kind: api.AnsDone, Access: true} }

// given is what a machine is made of.
type given struct {
	size  int
	multi bool
	stamp int64
	list  []api.Write
}

// config is what New is handed of it.
func (g given) config() api.Config { return api.Config{Ring: g.size, Multi: g.multi} }

// slot is where a stamp's entry stands.
func (g given) slot(stamp int64) int { return int(stamp % int64(g.size)) }

// headOf is the head word of a stamp's slot.
func (g given) headOf(stamp int64) api.Addr { return head(g.slot(stamp)) }

// sig is the signature of the cells that are written.
func (g given) sig() api.Sig {
	var s api.Sig
	for _, write := range g.list {
		s = sig.With(s, write.Cell)
	}
	return s
}

// last is the least stamp that it may look back at; above the stamp ahead of its own, if there is none.
func (g given) last() int64 { return max(1, g.stamp-int64(g.size)+1) }

// made is a machine that must be there.
func made(t *testing.T, g given) *back.Machine {
	t.Helper()
	x, why := back.New(g.config(), g.stamp, g.list)
	if x == nil || why != api.OK {
		t.Fatalf("New of %+v: %v, error %d", g, x, why)
	}
	return x
}

// memory is one of so many cells, with a head word for each of its slots.
func memory(t *testing.T, cells int, heads ...int64) *mem.Mem {
	t.Helper()
	m, why := mem.New(cells, len(heads))
	if m == nil || why != api.OK {
		t.Fatalf("a memory of %d cells and %d slots: error %d", cells, len(heads), why)
	}
	for slot, word := range heads {
		store(t, m, head(slot), word)
	}
	return m
}

// store puts a word where it must be possible.
func store(t *testing.T, m *mem.Mem, a api.Addr, v int64) {
	t.Helper()
	if why := m.Store(99, a, v); why != api.OK {
		t.Fatalf("Store to %+v: error %d", a, why)
	}
}

// peek is a word that must be there.
func peek(t *testing.T, m *mem.Mem, a api.Addr) int64 {
	t.Helper()
	word, why := m.Peek(a)
	if why != api.OK {
		t.Fatalf("Peek at %+v: error %d", a, why)
	}
	return word
}

// lay puts a signature into a slot.
func lay(t *testing.T, m *mem.Mem, slot int, s api.Sig) {
	t.Helper()
	for j, word := range s {
		store(t, m, sigWord(slot, j), int64(word))
	}
}

// older are the head words of a ring in which the stamps ahead of one are laid; those below a stamp are done, too.
func older(size int, stamp, doneBelow int64) []int64 {
	heads := make([]int64, size)
	for i := range int64(size) {
		s := stamp - 1 - i
		if s < 0 {
			continue
		}
		heads[s%int64(size)] = 2 * s
		if s < doneBelow || s == 0 {
			heads[s%int64(size)]++
		}
	}
	return heads
}

// but is a signature with all bits that another hasn't.
func but(s api.Sig) api.Sig {
	for j := range s {
		s[j] = ^s[j]
	}
	return s
}

// inWord is a cell whose bit stands in a word of a signature, the nth one of these.
func inWord(word, n int) int {
	for cell := range api.MaxCells {
		if shift.SigHash(cell)/64 == word {
			if n == 0 {
				return cell
			}
			n--
		}
	}
	panic("no such cell")
}

// inWords are writes to one cell for each of some words of a signature.
func inWords(words ...int) []api.Write {
	var list []api.Write
	for _, word := range words {
		list = append(list, api.Write{Cell: inWord(word, 0), Value: int64(100 + word)})
	}
	return list
}

// strewn gives numbers that are spread out, the same ones each time.
type strewn uint64

func (s *strewn) below(n int) int {
	*s = *s*6364136223846793005 + 1442695040888963407
	return int(uint64(*s>>33) % uint64(n))
}

// someWrites are lists of all lengths, mostly short ones, of the first cells; some cells stand twice.
func (s *strewn) someWrites(cells int) []api.Write {
	n := s.below(5)
	if s.below(20) == 0 {
		n = s.below(25)
	}
	list := make([]api.Write, n)
	for i := range list {
		list[i] = api.Write{Cell: s.below(cells), Value: int64(1 + s.below(1000))}
	}
	return list
}

// Numbers that no ring has as its size, no stamp is, no cell is.
func noSizes() []int {
	return []int{math.MinInt, math.MinInt32, -1 << 32, -16, -2, -1, 0, 17, 18, 32, 256, 257, 1 << 32, 1<<32 + 1, 1<<32 + 16, math.MaxInt32, math.MaxInt}
}

func noStamps() []int64 {
	return []int64{math.MinInt64, math.MinInt64 + 1, -1 << 40, -1 << 32, -2, -1, 0, 1<<40 + 1, 1<<40 + 2, 1 << 41, 1 << 62, math.MaxInt64}
}

func noCells() []int {
	return []int{math.MinInt, math.MinInt32, -1 << 32, -1024, -2, -1, 1024, 1025, 2047, 2048, 1 << 31, 1 << 32, 1<<32 + 3, 1<<40 + 7, math.MaxInt32, math.MaxInt}
}

// someStamps are stamps that may be.
func someStamps() []int64 {
	return []int64{1, 2, 3, 4, 15, 16, 17, 18, 1000, 1 << 31, 1 << 32, 1<<40 - 1, 1 << 40}
}

// A step: the access that it makes, but for its thread, and its answer.
type step struct {
	access api.Access
	answer api.Answer
}

func loads(a api.Addr, v int64, answer api.Answer) step {
	return step{api.Access{Kind: api.AccLoad, Addr: a, Value: v}, answer}
}

func stores(a api.Addr, v int64, answer api.Answer) step {
	return step{api.Access{Kind: api.AccStore, Addr: a, Value: v}, answer}
}

// lays are the steps by which the entry is laid.
func (g given) lays() []step {
	var steps []step
	for j, word := range g.sig() {
		steps = append(steps, stores(sigWord(g.slot(g.stamp), j), int64(word), moved()))
	}
	return append(steps, stores(g.headOf(g.stamp), 2*g.stamp, moved()))
}

// writes are the steps by which the cells are written.
func (g given) writes() []step {
	var steps []step
	for _, write := range g.list {
		steps = append(steps, stores(cellAt(write.Cell), write.Value, moved()))
	}
	return steps
}

// ends is the step by which the entry is complete.
func (g given) ends() step { return stores(g.headOf(g.stamp), 2*g.stamp+1, done()) }

// holds are the Loads of an older stamp's signature, of the words that its own has bits in, up to one of them.
func (g given) holds(t *testing.T, m *mem.Mem, s int64, upTo int) []step {
	t.Helper()
	var steps []step
	for j, word := range g.sig() {
		if word != 0 && j <= upTo {
			a := sigWord(g.slot(s), j)
			steps = append(steps, loads(a, peek(t, m, a), moved()))
		}
	}
	return steps
}

// tells: over a memory a machine's next steps are these.
func tells(t *testing.T, x *back.Machine, m *mem.Mem, steps ...step) {
	t.Helper()
	for i, want := range steps {
		before := m.Count()
		got := x.Step(m, 3+i)
		want.access.Thread = 3 + i
		if log := m.Log(before); got != want.answer || !slices.Equal(log, []api.Access{want.access}) {
			t.Fatalf("step %d: %+v by %+v, not %+v by %+v", i, got, log, want.answer, want.access)
		}
	}
}

// through: a machine makes no access any more.
func through(t *testing.T, x *back.Machine, m *mem.Mem) {
	t.Helper()
	before := m.Count()
	if got := x.Step(m, 0); got != none() || m.Count() != before || x.Left() != 0 {
		t.Errorf("behind the end: %+v, %d accesses, %d left", got, m.Count()-before, x.Left())
	}
}

// left: so many cells aren't written yet.
func left(t *testing.T, x *back.Machine, want int) {
	t.Helper()
	if got := x.Left(); got != want {
		t.Errorf("%d left, not %d", got, want)
	}
}

// P11.1, P11.2: the chapter's first example: without Multi, alone.
func TestExampleAlone(t *testing.T) {
	m, _ := mem.New(8, 4)
	x := made(t, given{4, false, 1, []api.Write{{Cell: 2, Value: 9}}})
	if x.Sig() != sig.Of(2) {
		t.Error("Sig")
	}
	for j, word := range sig.Of(2) {
		left(t, x, 1)
		tells(t, x, m, stores(sigWord(1, j), int64(word), moved()))
	}
	left(t, x, 1)
	tells(t, x, m, stores(head(1), 2, moved()))
	left(t, x, 1)
	tells(t, x, m, stores(cellAt(2), 9, moved()))
	left(t, x, 0)
	tells(t, x, m, stores(head(1), 3, done()))
	left(t, x, 0)
	through(t, x, m)
	if m.Count() != 11 {
		t.Errorf("%d steps", m.Count())
	}
}

// P11.2: the chapter's second example: an older entry of other bits.
func TestExampleOtherBits(t *testing.T) {
	g := given{4, true, 2, []api.Write{{Cell: 2, Value: 9}}}
	m := memory(t, 8, 1, 2, 1, 1)
	lay(t, m, 1, but(sig.Of(2)))
	x := made(t, g)
	tells(t, x, m, g.lays()...)
	// The cell 2 has its bit in the word 1.
	tells(t, x, m, loads(head(1), 2, moved()), loads(sigWord(1, 1), int64(but(sig.Of(2))[1]), moved()))
	left(t, x, 1)
	tells(t, x, m, stores(cellAt(2), 9, moved()))
	left(t, x, 0)
	tells(t, x, m, loads(head(1), 2, waits()), loads(head(1), 2, waits()), loads(head(1), 2, waits()))
	store(t, m, head(1), 3)
	tells(t, x, m, loads(head(1), 3, moved()), stores(head(2), 5, done()))
	through(t, x, m)
}

// P11.2: the chapter's third example: the same with a shared bit.
func TestExampleSharedBit(t *testing.T) {
	g := given{4, true, 2, []api.Write{{Cell: 2, Value: 9}}}
	m := memory(t, 8, 1, 2, 1, 1)
	lay(t, m, 1, sig.Of(2))
	x := made(t, g)
	tells(t, x, m, g.lays()...)
	tells(t, x, m, loads(head(1), 2, moved()), loads(sigWord(1, 1), 1<<53, moved()))
	tells(t, x, m, loads(head(1), 2, waits()), loads(head(1), 2, waits()), loads(head(1), 2, waits()))
	left(t, x, 1)
	store(t, m, head(1), 3)
	tells(t, x, m, loads(head(1), 3, moved()), stores(cellAt(2), 9, moved()), stores(head(2), 5, done()))
	through(t, x, m)
}

// P11.1: every size, stamps of every size, lists of every length: a new machine made no access, and wrote nothing; its first access is the Store of its signature's first word.
func TestNew(t *testing.T) {
	for size := 1; size <= 16; size++ {
		for _, stamp := range someStamps() {
			for n := range 25 {
				for _, multi := range []bool{false, true} {
					g := given{size, multi, stamp, make([]api.Write, n)}
					for i := range g.list {
						g.list[i] = api.Write{Cell: 1023 - 40*i, Value: int64(i)}
					}
					x := made(t, g)
					left(t, x, n)
					if x.Sig() != g.sig() {
						t.Errorf("Sig of %+v", g)
					}
					m := memory(t, 1024, make([]int64, size)...)
					tells(t, x, m, g.lays()[0])
					left(t, x, n)
				}
			}
		}
	}
}

// P11.1: the signature is that of the cells, each cell alone, and of cells that stand twice or share a bit.
func TestSig(t *testing.T) {
	for cell := range api.MaxCells {
		for _, list := range [][]api.Write{{{Cell: cell}}, {{Cell: cell, Value: 7}, {Cell: cell, Value: -8}}} {
			x := made(t, given{4, true, 1, list})
			if x.Sig() != sig.Of(cell) || x.Left() != len(list) {
				t.Errorf("cell %d: %s, %d left", cell, sig.Text(x.Sig()), x.Left())
			}
		}
	}
	if x := made(t, given{4, true, 1, nil}); x.Sig() != (api.Sig{}) || x.Left() != 0 {
		t.Error("of no cell")
	}
	seed := strewn(8)
	for range 500 {
		g := given{4, true, 1, seed.someWrites(1024)}
		if x := made(t, g); x.Sig() != g.sig() || x.Left() != len(g.list) {
			t.Errorf("of %v: %s, %d left", g.list, sig.Text(x.Sig()), x.Left())
		}
	}
}

// P11.1: sizes that no ring has, stamps that there are not, lists that are too long, and cells that may not be, wherever they stand; alone and together. (The chapter's fourth example is among them.)
func TestNewRefuses(t *testing.T) {
	refused := func(size int, stamp int64, list []api.Write) {
		t.Helper()
		for _, multi := range []bool{false, true} {
			c := api.Config{Raw: 4, Ring: size, Writes: 24, Stamps: 1 << 40, Multi: multi, Tries: 5}
			if x, why := back.New(c, stamp, list); x != nil || why != api.ErrArg {
				t.Errorf("New of %+v, %d, %v: %v, error %d", c, stamp, list, x, why)
			}
		}
	}
	var bad [][]api.Write
	for _, n := range []int{25, 26, 48, 256, 257, 1 << 16} {
		bad = append(bad, make([]api.Write, n))
	}
	for _, cell := range noCells() {
		for at := range 24 {
			list := make([]api.Write, 24)
			list[at].Cell = cell
			bad = append(bad, list, list[at:at+1])
		}
	}
	good := [][]api.Write{nil, {}, {{Cell: 1023}}, make([]api.Write, 24)}
	for _, size := range noSizes() {
		for _, stamp := range append(someStamps(), noStamps()...) {
			for _, list := range append(good, bad[0], bad[9]) {
				refused(size, stamp, list)
			}
		}
	}
	for size := 1; size <= 16; size++ {
		for _, stamp := range noStamps() {
			for _, list := range append(good, bad[0], bad[9]) {
				refused(size, stamp, list)
			}
		}
		for _, list := range bad {
			refused(size, 1, list)
			refused(size, 1<<40, list)
		}
	}
}

// P11.1: nothing else of a configuration is looked at, whatever it is; not its limits of writes and stamps either.
func TestNewOtherFields(t *testing.T) {
	for _, odd := range []int{math.MinInt, -1, 0, 1, 25, 65, 256, math.MaxInt} {
		for _, regions := range [][]api.Region{nil, {{}}, make([]api.Region, 99)} {
			for _, multi := range []bool{false, true} {
				g := given{2, multi, 7, inWords(3, 5)}
				c := api.Config{Raw: odd, Ring: 2, Writes: odd, Stamps: int64(odd), Multi: multi, Tries: odd, Regions: regions}
				x, why := back.New(c, g.stamp, g.list)
				if x == nil || why != api.OK {
					t.Fatalf("New of %+v: error %d", c, why)
				}
				m := memory(t, 1024, 13, 11)
				tells(t, x, m, g.lays()...)
				if multi {
					tells(t, x, m, loads(head(0), 13, moved()))
				}
				tells(t, x, m, append(g.writes(), g.ends())...)
			}
		}
	}
}

// P11.2: without Multi it looks at nothing, for every size and stamp, whatever stands in the ring.
func TestWithoutMulti(t *testing.T) {
	for size := 1; size <= 16; size++ {
		for _, stamp := range someStamps() {
			for _, word := range []int64{math.MinInt64, -1, 0, 1, 2*stamp - 2, 2*stamp - 1, 2 * stamp, 2*stamp + 1, math.MaxInt64} {
				g := given{size, false, stamp, inWords(7, 0, 2)}
				m := memory(t, 1024, slices.Repeat([]int64{word}, size)...)
				for slot := range size {
					lay(t, m, slot, g.sig())
				}
				x := made(t, g)
				tells(t, x, m, g.lays()...)
				tells(t, x, m, append(g.writes(), g.ends())...)
				through(t, x, m)
			}
		}
	}
}

// P11.2: with Multi the first entry, and one in a ring of one slot, looks at nothing, too.
func TestNothingOlder(t *testing.T) {
	var all []given
	for size := 1; size <= 16; size++ {
		all = append(all, given{size, true, 1, inWords(7, 0, 2)}, given{size, true, 1, nil})
	}
	for _, stamp := range someStamps() {
		all = append(all, given{1, true, stamp, inWords(1, 4)}, given{1, true, stamp, nil})
	}
	for _, g := range all {
		for _, word := range []int64{math.MinInt64, -1, 0, 1, 2, 3, 2*g.stamp - 2, 2*g.stamp - 1, math.MaxInt64} {
			m := memory(t, 1024, slices.Repeat([]int64{word}, g.size)...)
			x := made(t, g)
			tells(t, x, m, g.lays()...)
			tells(t, x, m, append(g.writes(), g.ends())...)
			through(t, x, m)
		}
	}
}

// overBy are head words by which a stamp is over.
func overBy(s int64) []int64 { return []int64{2*s + 1, 2*s + 2, 2*s + 3, 4*s + 9, math.MaxInt64} }

// notLaidBy are head words that are those of earlier stamps.
func notLaidBy(s int64) []int64 { return []int64{math.MinInt64, -2, -1, 0, 1, 2*s - 2, 2*s - 1} }

// P11.2: where the stamp ahead is over, all is known to be complete: behind the cells it is through at once.
func TestOlderIsOver(t *testing.T) {
	for size := 2; size <= 16; size++ {
		for _, stamp := range someStamps()[1:] {
			for _, list := range [][]api.Write{nil, inWords(0), inWords(7, 6, 5, 4, 3, 2, 1, 0)} {
				for _, word := range overBy(stamp - 1) {
					g := given{size, true, stamp, list}
					m := memory(t, 1024, make([]int64, size)...)
					store(t, m, g.headOf(stamp-1), word)
					lay(t, m, g.slot(stamp-1), g.sig())
					x := made(t, g)
					tells(t, x, m, g.lays()...)
					tells(t, x, m, loads(g.headOf(stamp-1), word, moved()))
					// It was known when it was looked at, whatever stands there now.
					store(t, m, g.headOf(stamp-1), 0)
					tells(t, x, m, append(g.writes(), g.ends())...)
					through(t, x, m)
				}
			}
		}
	}
}

// P11.2: for an older entry that isn't laid it waits, till it is; what is done meanwhile ends the looking back.
func TestOlderNotLaid(t *testing.T) {
	for size := 2; size <= 16; size++ {
		for _, stamp := range someStamps()[1:] {
			g := given{size, true, stamp, inWords(2, 6)}
			before := stamp - 1
			m := memory(t, 1024, make([]int64, size)...)
			x, other := made(t, g), made(t, g)
			tells(t, x, m, g.lays()...)
			tells(t, other, m, g.lays()...)
			for _, word := range notLaidBy(before) {
				store(t, m, g.headOf(before), word)
				tells(t, x, m, loads(g.headOf(before), word, waits()), loads(g.headOf(before), word, waits()))
				tells(t, other, m, loads(g.headOf(before), word, waits()))
				left(t, x, 2)
			}
			store(t, m, g.headOf(before), 2*before)
			tells(t, x, m, loads(g.headOf(before), 2*before, moved()), loads(sigWord(g.slot(before), 2), 0, moved()), loads(sigWord(g.slot(before), 6), 0, moved()))
			store(t, m, g.headOf(before), 2*before+1)
			tells(t, other, m, loads(g.headOf(before), 2*before+1, moved()))
			tells(t, other, m, append(g.writes(), g.ends())...)
		}
	}
}

// P11.2: it looks back as far as entries may be under way: down to the stamp 1, and not at the stamp that stood in its own slot; and behind the cells it waits for the stamp ahead.
func TestLooksBackHowFar(t *testing.T) {
	for size := 2; size <= 16; size++ {
		for _, stamp := range append(someStamps()[1:], 5, 6, 7, 8, 9, 10, 11, 12, 13, 14) {
			for _, list := range [][]api.Write{nil, inWords(0), inWords(7), inWords(1, 4), inWords(7, 6, 5, 4, 3, 2, 1, 0)} {
				g := given{size, true, stamp, list}
				m := memory(t, 1024, older(size, stamp, 0)...)
				for slot := range size {
					lay(t, m, slot, but(g.sig()))
				}
				x := made(t, g)
				tells(t, x, m, g.lays()...)
				looked := 0
				for s := stamp - 1; s >= g.last(); s-- {
					tells(t, x, m, loads(g.headOf(s), 2*s, moved()))
					tells(t, x, m, g.holds(t, m, s, 7)...)
					looked++
				}
				if looked != int(min(stamp, int64(size)))-1 {
					t.Fatalf("size %d, stamp %d: %d stamps", size, stamp, looked)
				}
				tells(t, x, m, g.writes()...)
				awaitsAll(t, x, m, g)
			}
		}
	}
}

// awaitsAll: it waits for the stamp ahead, by every head word that says that it isn't over, and then it is through.
func awaitsAll(t *testing.T, x *back.Machine, m *mem.Mem, g given) {
	t.Helper()
	left(t, x, 0)
	a, before := g.headOf(g.stamp-1), g.stamp-1
	for _, word := range append(notLaidBy(before), 2*before) {
		store(t, m, a, word)
		tells(t, x, m, loads(a, word, waits()))
	}
	over := overBy(before)[int(g.stamp)%5]
	store(t, m, a, over)
	tells(t, x, m, loads(a, over, moved()), g.ends())
	through(t, x, m)
}

// P11.2: an older entry that is over ends the looking back, whichever it is: those ahead of it aren't looked at.
func TestLookingBackStops(t *testing.T) {
	for size := 3; size <= 16; size++ {
		for _, stamp := range someStamps()[2:] {
			g := given{size, true, stamp, inWords(0, 5)}
			for stop := stamp - 2; stop >= g.last(); stop-- {
				for _, word := range overBy(stop) {
					m := memory(t, 1024, older(size, stamp, 0)...)
					store(t, m, g.headOf(stop), word)
					lay(t, m, g.slot(stop), g.sig())
					x := made(t, g)
					tells(t, x, m, g.lays()...)
					for s := stamp - 1; s > stop; s-- {
						tells(t, x, m, loads(g.headOf(s), 2*s, moved()))
						tells(t, x, m, g.holds(t, m, s, 7)...)
					}
					tells(t, x, m, loads(g.headOf(stop), word, moved()))
					tells(t, x, m, g.writes()...)
					awaitsAll(t, x, m, g)
				}
			}
		}
	}
}

// P11.2: a shared bit, in whichever word of whichever older entry: the words behind it aren't Loaded, it waits for that entry ahead of its cells, and looks at no other one; behind the stamp ahead all is known, behind another one it isn't.
func TestSharedBits(t *testing.T) {
	for size := 2; size <= 16; size += 1 + size/6 {
		for _, stamp := range []int64{2, 3, 16, 17, 1000, 1 << 40} {
			g := given{size, true, stamp, inWords(6, 3, 0, 7)}
			for shared := stamp - 1; shared >= g.last(); shared-- {
				for _, word := range []int{0, 3, 6, 7} {
					for _, over := range overBy(shared) {
						m := memory(t, 1024, older(size, stamp, 0)...)
						lay(t, m, g.slot(shared), sig.Of(inWord(word, 0)))
						x := made(t, g)
						tells(t, x, m, g.lays()...)
						for s := stamp - 1; s > shared; s-- {
							tells(t, x, m, loads(g.headOf(s), 2*s, moved()))
							tells(t, x, m, g.holds(t, m, s, 7)...)
						}
						tells(t, x, m, loads(g.headOf(shared), 2*shared, moved()))
						tells(t, x, m, g.holds(t, m, shared, word)...)
						for _, not := range append(notLaidBy(shared), 2*shared) {
							store(t, m, g.headOf(shared), not)
							tells(t, x, m, loads(g.headOf(shared), not, waits()))
						}
						left(t, x, 4)
						store(t, m, g.headOf(shared), over)
						tells(t, x, m, loads(g.headOf(shared), over, moved()))
						tells(t, x, m, g.writes()...)
						if shared == stamp-1 {
							tells(t, x, m, g.ends())
							through(t, x, m)
							continue
						}
						awaitsAll(t, x, m, g)
					}
				}
			}
		}
	}
}

// P11.2: a bit is shared where both have it: each of the 64 of a word, the highest too; and no other one.
func TestEachBit(t *testing.T) {
	for cell := range 300 {
		g := given{4, true, 2, []api.Write{{Cell: cell, Value: 1}}}
		bit := shift.SigHash(cell)
		for other := range 64 {
			m := memory(t, 1024, 1, 2, 1, 1)
			word := sigWord(1, bit/64)
			store(t, m, word, 1<<other)
			x := made(t, g)
			tells(t, x, m, g.lays()...)
			tells(t, x, m, loads(head(1), 2, moved()), loads(word, 1<<other, moved()))
			if other == bit%64 {
				tells(t, x, m, loads(head(1), 2, waits()))
			} else {
				tells(t, x, m, g.writes()...)
			}
		}
	}
}

// P11.2: the signature that it holds against others' is its own, not what stands in its slot.
func TestOwnSlotChanged(t *testing.T) {
	g := given{4, true, 2, inWords(1)}
	m := memory(t, 1024, 1, 2, 1, 1)
	lay(t, m, 1, but(g.sig()))
	x := made(t, g)
	tells(t, x, m, g.lays()...)
	lay(t, m, 2, but(api.Sig{}))
	store(t, m, head(2), 99)
	tells(t, x, m, loads(head(1), 2, moved()))
	tells(t, x, m, g.holds(t, m, 1, 7)...)
	tells(t, x, m, g.writes()...)
	awaitsAll(t, x, m, g)
}

// P11.2: without a cell there is nothing to hold against: it looks at heads alone; and it waits for the stamp ahead all the same.
func TestNoCells(t *testing.T) {
	g := given{4, true, 9, nil}
	m := memory(t, 1, older(4, 9, 7)...)
	for slot := range 4 {
		lay(t, m, slot, but(api.Sig{}))
	}
	x := made(t, g)
	tells(t, x, m, g.lays()...)
	tells(t, x, m, loads(head(0), 16, moved()), loads(head(3), 14, moved()), loads(head(2), 13, moved()))
	awaitsAll(t, x, m, g)
}

// P11.1, P11.2: the cells are written in the order of the list, all its elements, also to the same cell and of the same value; each is one less that is left.
func TestListsOrder(t *testing.T) {
	g := given{4, false, 5, []api.Write{{Cell: 7, Value: 1}, {Cell: 0, Value: math.MinInt64}, {Cell: 7, Value: 2}, {Cell: 1023, Value: math.MaxInt64}, {Cell: 7, Value: 2}, {Cell: 0, Value: -1}, {Cell: 3, Value: 0}}}
	m := memory(t, 1024, 1, 1, 1, 1)
	x := made(t, g)
	tells(t, x, m, g.lays()...)
	for i, write := range g.writes() {
		left(t, x, len(g.list)-i)
		tells(t, x, m, write)
	}
	left(t, x, 0)
	tells(t, x, m, g.ends())
	for cell, want := range map[int]int64{7: 2, 0: -1, 1023: math.MaxInt64, 3: 0} {
		if got := peek(t, m, cellAt(cell)); got != want {
			t.Errorf("cell %d: %d", cell, got)
		}
	}
	// As many as there may be.
	g.list = make([]api.Write, 24)
	for i := range g.list {
		g.list[i] = api.Write{Cell: 23 - i, Value: int64(i)}
	}
	m = memory(t, 24, 1, 1, 1, 1)
	x = made(t, g)
	tells(t, x, m, g.lays()...)
	tells(t, x, m, append(g.writes(), g.ends())...)
	through(t, x, m)
}

// P11.2: it takes no account of the newest stamp, and leaves it as it is.
func TestNewestNotAsked(t *testing.T) {
	for _, word := range []int64{math.MinInt64, -1, 0, 4, 5, 6, 99, math.MaxInt64} {
		g := given{4, true, 5, inWords(4)}
		m := memory(t, 1024, 9, 1, 5, 7)
		store(t, m, newest(), word)
		x := made(t, g)
		tells(t, x, m, g.lays()...)
		tells(t, x, m, loads(head(0), 9, moved()))
		tells(t, x, m, append(g.writes(), g.ends())...)
		if peek(t, m, newest()) != word {
			t.Errorf("the newest stamp %d", peek(t, m, newest()))
		}
	}
}

// twins are two memories that hold the same words.
type twins struct{ m, like *mem.Mem }

// both makes two memories of the same words.
func both(t *testing.T, cells int, heads ...int64) twins {
	t.Helper()
	return twins{memory(t, cells, heads...), memory(t, cells, heads...)}
}

// put stores into both.
func (w twins) put(t *testing.T, a api.Addr, v int64) {
	t.Helper()
	store(t, w.m, a, v)
	store(t, w.like, a, v)
}

// telling does what the chapter tells, in its words, from the first access to the last, and says the answer behind each.
type telling struct {
	given
	m      *mem.Mem
	thread int // whose the next access is
	left   int
	known  bool
	say    func(api.Answer) bool // false: nobody asks any more
}

func (x *telling) load(a api.Addr) int64 {
	word, _ := x.m.Load(x.thread, a)
	return word
}

// all are the answers, one by one.
func (x *telling) all() iter.Seq[api.Answer] {
	return func(yield func(api.Answer) bool) {
		x.say = yield
		x.known = !x.multi || x.stamp-1 < 1 || x.size == 1
		if !x.entry() || x.multi && !x.looksBack() || !x.cells() || !x.known && !x.isOver(x.stamp-1) {
			return
		}
		x.m.Store(x.thread, x.headOf(x.stamp), 2*x.stamp+1)
		x.say(done())
	}
}

func (x *telling) entry() bool {
	k := x.slot(x.stamp)
	for j, word := range x.sig() {
		x.m.Store(x.thread, sigWord(k, j), int64(word))
		if !x.say(moved()) {
			return false
		}
	}
	x.m.Store(x.thread, head(k), 2*x.stamp)
	return x.say(moved())
}

func (x *telling) cells() bool {
	for _, write := range x.list {
		x.m.Store(x.thread, cellAt(write.Cell), write.Value)
		x.left--
		if !x.say(moved()) {
			return false
		}
	}
	return true
}

// isOver Loads a stamp's head till the stamp is over.
func (x *telling) isOver(s int64) bool {
	for x.load(x.headOf(s)) < 2*s+1 {
		if !x.say(waits()) {
			return false
		}
	}
	return x.say(moved())
}

func (x *telling) looksBack() bool {
	for s := x.stamp - 1; s >= 1 && s > x.stamp-int64(x.size); s-- {
		word := x.load(x.headOf(s))
		for word < 2*s {
			if !x.say(waits()) {
				return false
			}
			word = x.load(x.headOf(s))
		}
		if !x.say(moved()) {
			return false
		}
		over := word > 2*s
		for j, own := range x.sig() {
			if over || own == 0 {
				continue
			}
			shares := uint64(x.load(sigWord(x.slot(s), j)))&own != 0
			if !x.say(moved()) || shares && !x.isOver(s) {
				return false
			}
			over = shares
		}
		if over {
			x.known = x.known || s == x.stamp-1
			return true
		}
	}
	return true
}

// agrees: a machine does over a memory what is told over one of the same words, till both are through, or so many steps are made, ahead of each of which something may be written; it answers the last answer, and how often it waited.
func agrees(t *testing.T, g given, w twins, steps int, meanwhile func()) (api.Answer, int) {
	t.Helper()
	x, like := made(t, g), &telling{given: g, m: w.like, left: len(g.list)}
	next, stop := iter.Pull(like.all())
	defer stop()
	last, waited := none(), 0
	for i := range steps {
		if x.Left() != like.left || x.Sig() != g.sig() {
			t.Fatalf("%+v: %d left, not %d; %s", g, x.Left(), like.left, sig.Text(x.Sig()))
		}
		meanwhile()
		before, beforeLike := w.m.Count(), w.like.Count()
		like.thread = 4 + i
		want, _ := next()
		got := x.Step(w.m, 4+i)
		log := w.m.Log(before)
		if got != want || !slices.Equal(log, w.like.Log(beforeLike)) || len(log) > 1 || got.Access != (len(log) == 1) {
			t.Fatalf("%+v: step %d: %+v by %+v, not %+v by %+v", g, i, got, log, want, w.like.Log(beforeLike))
		}
		if got == none() {
			break
		}
		if got == waits() {
			waited++
		}
		last = got
	}
	return last, waited
}

// P11.1, P11.2: rings of every size, with stamps of every size, mostly laid, some of them done, some of another stamp, whose signatures have few bits.
func TestAllRings(t *testing.T) {
	seed := strewn(1)
	kinds := map[api.Answer]int{}
	for size := 1; size <= 16; size++ {
		for _, middle := range []int64{1, 3, 1000, 1 << 31, 1 << 32, 1<<40 - 40} {
			for range 80 {
				g := given{size, seed.below(4) > 0, middle + int64(seed.below(40)), seed.someWrites(50)}
				w := both(t, 50, older(size, g.stamp, g.stamp-int64(seed.below(6)))...)
				for range seed.below(20) {
					w.put(t, sigWord(seed.below(size), seed.below(8)), 1<<seed.below(64)|1<<seed.below(64))
				}
				if seed.below(3) == 0 {
					w.put(t, head(seed.below(size)), 2*(g.stamp+int64(seed.below(40))-20))
				}
				last, _ := agrees(t, g, w, 13+len(g.list)+9*size, func() {})
				kinds[last]++
			}
		}
	}
	for _, answer := range []api.Answer{done(), waits()} {
		if kinds[answer] < 1000 {
			t.Errorf("just %d ended with %+v", kinds[answer], answer)
		}
	}
}

// P11.1, P11.2: whatever others write meanwhile it does what its chapter tells.
func TestOthersWrite(t *testing.T) {
	seed := strewn(3)
	ended, after := 0, 0
	for round := range 6000 {
		size := 1 + round%16
		g := given{size, seed.below(5) > 0, int64(1 + seed.below(40)), seed.someWrites(40)}
		w := both(t, 40, older(size, g.stamp, g.stamp-3)...)
		haste := 2 + seed.below(6)
		last, waited := agrees(t, g, w, 400, func() {
			if seed.below(haste) == 0 {
				a, v := scribble(&seed, g)
				w.put(t, a, v)
			}
		})
		if last == done() {
			ended++
			if waited > 0 {
				after++
			}
		}
	}
	if ended < 4000 || after < 1000 {
		t.Errorf("just %d ended, %d of them having waited", ended, after)
	}
}

// scribble is a word to be written, mostly such as an entry has.
func scribble(seed *strewn, g given) (api.Addr, int64) {
	s := max(1, g.stamp-1-int64(seed.below(g.size)))
	slot := g.slot(s)
	switch seed.below(10) {
	case 0:
		return newest(), g.stamp + int64(seed.below(g.size+3)) - 1
	case 1, 2:
		return sigWord(slot, seed.below(8)), 1 << seed.below(64)
	case 3:
		return sigWord(slot, seed.below(8)), int64(but(g.sig())[seed.below(8)])
	case 4:
		return head(slot), 2*s - int64(seed.below(5))
	case 5:
		return head(slot), 2 * (s + int64(seed.below(2)*g.size))
	}
	return head(slot), 2*s + int64(seed.below(2))
}

// P11.2: behind its end it makes no access, and tells the same, whatever is written.
func TestThrough(t *testing.T) {
	for _, multi := range []bool{false, true} {
		for _, list := range [][]api.Write{nil, {{Cell: 0, Value: 5}}, {{Cell: 3, Value: 5}, {Cell: 1, Value: 6}}} {
			g := given{4, multi, 6, list}
			m := memory(t, 4, 9, 11, 5, 7)
			x := made(t, g)
			last := none()
			for range 20 {
				if a := x.Step(m, 0); a != none() {
					last = a
				}
			}
			if last != done() {
				t.Errorf("%+v: %+v", g, last)
			}
			for i := range 20 {
				store(t, m, newest(), int64(i%4))
				store(t, m, head(i%4), int64(4*i))
				store(t, m, cellAt(i%4), int64(i))
				through(t, x, m)
				if x.Sig() != g.sig() {
					t.Errorf("%+v: %s", g, sig.Text(x.Sig()))
				}
			}
		}
	}
}

// P11.2, R1: a nil memory, one with another number of slots, and one without one of the cells is none, in every state; and the machine goes on behind that as if nothing had been.
func TestOtherMemories(t *testing.T) {
	for size := 1; size <= 16; size++ {
		for _, multi := range []bool{false, true} {
			// The greatest cell stands in the list's midst: it is written while others are left, and others while it is left.
			g := given{size, multi, 40, []api.Write{{Cell: 4, Value: 1}, {Cell: 9, Value: 2}, {Cell: 6, Value: 3}}}
			m := memory(t, 10, older(size, 40, 0)...)
			x := made(t, g)
			seen, last := map[api.Answer]int{}, none()
			for i := range 40 + 9*size {
				if i < 40 || i > 9*size {
					refuses(t, x, g)
				}
				if i == 25+9*size && size > 1 {
					store(t, m, g.headOf(39), 79)
				}
				if a := x.Step(m, 5); a != none() {
					last = a
					seen[a]++
				}
			}
			if last != done() || (seen[waits()] > 0) != (multi && size > 1) {
				t.Errorf("size %d, multi %v: %+v, %v", size, multi, last, seen)
			}
			for cell, want := range map[int]int64{4: 1, 9: 2, 6: 3} {
				if peek(t, m, cellAt(cell)) != want {
					t.Errorf("cell %d: %d", cell, peek(t, m, cellAt(cell)))
				}
			}
		}
	}
}

// P11.2, R1: also one that waits for an older entry, laid or not, makes nothing of another memory.
func TestOtherMemoriesWaiting(t *testing.T) {
	for _, word := range []int64{0, 2} {
		g := given{4, true, 2, []api.Write{{Cell: 9, Value: 1}}}
		m := memory(t, 10, 1, word, 1, 1)
		lay(t, m, 1, g.sig())
		x := made(t, g)
		for range 16 {
			refuses(t, x, g)
			x.Step(m, 5)
		}
		tells(t, x, m, loads(head(1), word, waits()))
		left(t, x, 1)
	}
}

// refuses: a machine makes nothing of memories that aren't its own kind's, of ten cells.
func refuses(t *testing.T, x *back.Machine, g given) {
	t.Helper()
	before := x.Left()
	if got := x.Step(nil, 5); got != none() {
		t.Errorf("a nil memory: %+v", got)
	}
	refused := func(cells, slots int) {
		t.Helper()
		other, _ := mem.New(cells, slots)
		if got := x.Step(other, 5); got != none() || other.Count() != 0 {
			t.Errorf("%d cells, %d slots, for %+v: %+v, %d accesses", cells, slots, g, got, other.Count())
		}
	}
	for slots := 1; slots <= 16; slots++ {
		if slots != g.size {
			refused(10, slots)
		}
	}
	for cells := 1; cells < 10; cells++ {
		refused(cells, g.size)
	}
	left(t, x, before)
	if x.Sig() != g.sig() {
		t.Errorf("%s", sig.Text(x.Sig()))
	}
}

// P11.2: a memory has enough cells if it has the greatest one, also if that is its last; without cells to write every one has.
func TestEnoughCells(t *testing.T) {
	for _, cells := range []int{1, 2, 10, 1023, 1024} {
		g := given{4, false, 1, []api.Write{{Cell: cells - 1, Value: 5}}}
		m := memory(t, cells, 1, 1, 1, 1)
		x := made(t, g)
		tells(t, x, m, g.lays()...)
		tells(t, x, m, append(g.writes(), g.ends())...)
		empty := given{4, false, 1, nil}
		x = made(t, empty)
		tells(t, x, m, empty.lays()...)
		tells(t, x, m, empty.ends())
	}
}

// R1: a nil machine, and one that New didn't make.
func TestNoMachine(t *testing.T) {
	for _, x := range []*back.Machine{nil, new(back.Machine)} {
		m := memory(t, 4, 1, 3, 0, 1)
		before := m.Count()
		if got := x.Step(m, 0); got != none() || m.Count() != before {
			t.Errorf("Step: %+v", got)
		}
		for _, nothing := range []*mem.Mem{nil, new(mem.Mem)} {
			if got := x.Step(nothing, 0); got != none() {
				t.Errorf("Step over no memory: %+v", got)
			}
		}
		if x.Sig() != (api.Sig{}) || x.Left() != 0 {
			t.Errorf("Sig %s, %d left", sig.Text(x.Sig()), x.Left())
		}
	}
}

// P11.2: whatever the thread is, also one that may not be, it is in the access, and nothing else hangs on it.
func TestThreads(t *testing.T) {
	for _, thread := range []int{math.MinInt, -1 << 32, -1, 0, 7, 8, 9, 1 << 32, math.MaxInt} {
		g := given{4, true, 3, inWords(5)}
		m := memory(t, 1024, 1, 3, 4, 1)
		before := m.Count()
		x := made(t, g)
		var want []step
		want = append(want, g.lays()...)
		want = append(want, loads(head(2), 4, moved()), loads(sigWord(2, 5), 0, moved()), loads(head(1), 3, moved()))
		want = append(want, g.writes()...)
		want = append(want, loads(head(2), 4, waits()))
		for i, s := range want {
			if got := x.Step(m, thread); got != s.answer {
				t.Errorf("thread %d, step %d: %+v", thread, i, got)
			}
			want[i].access.Thread = thread
		}
		for i, access := range m.Log(before) {
			if access != want[i].access {
				t.Errorf("thread %d, step %d: %+v", thread, i, access)
			}
		}
	}
}

// R4: of two memories of one kind each access is one of that which is handed in.
func TestTwoMemories(t *testing.T) {
	g := given{4, true, 3, []api.Write{{Cell: 0, Value: 5}, {Cell: 1, Value: 6}}}
	one, two := memory(t, 2, 1, 1, 1, 1), memory(t, 2, 1, 3, 5, 1)
	x := made(t, g)
	for i := range 9 {
		tells(t, x, []*mem.Mem{one, two}[i%2], g.lays()[i])
	}
	tells(t, x, one, loads(head(2), 1, waits()))
	tells(t, x, two, loads(head(2), 5, moved()))
	tells(t, x, one, g.writes()[0])
	tells(t, x, two, g.writes()[1])
	tells(t, x, one, g.ends())
	through(t, x, two)
	if peek(t, two, head(3)) == 7 || peek(t, two, cellAt(0)) != 0 || peek(t, one, cellAt(1)) != 0 {
		t.Error("a Store went into the other one")
	}
}

// R4: machines beside each other, each over a memory of its own, go as each goes alone.
func TestMachinesApart(t *testing.T) {
	seed := strewn(2)
	for range 300 {
		var all []given
		var beside, alone []*back.Machine
		var own, like []*mem.Mem
		for range 4 {
			size := 1 + seed.below(5)
			g := given{size, seed.below(3) > 0, int64(1 + seed.below(9)), seed.someWrites(6)}
			heads := older(size, g.stamp, g.stamp-int64(seed.below(4)))
			all = append(all, g)
			beside, alone = append(beside, made(t, g)), append(alone, made(t, g))
			own, like = append(own, memory(t, 6, heads...)), append(like, memory(t, 6, heads...))
		}
		said := make([][]api.Answer, 4)
		for range 120 {
			i := seed.below(4)
			said[i] = append(said[i], beside[i].Step(own[i], i))
		}
		for i := range all {
			for k, got := range said[i] {
				if want := alone[i].Step(like[i], 0); got != want {
					t.Fatalf("machine %d of %+v, step %d: %+v, alone %+v", i, all, k, got, want)
				}
			}
			left(t, beside[i], alone[i].Left())
			if beside[i].Sig() != all[i].sig() {
				t.Errorf("machine %d of %+v: %s", i, all, sig.Text(beside[i].Sig()))
			}
		}
	}
}

// R4: what was copied from a machine goes on by itself, and leaves that as it is.
func TestCopy(t *testing.T) {
	g := given{4, true, 2, inWords(1, 2)}
	for steps := range 15 {
		m, other := memory(t, 1024, 1, 2, 1, 1), memory(t, 1024, 1, 2, 1, 1)
		x := made(t, g)
		for range steps {
			x.Step(m, 1)
		}
		before := x.Left()
		y := *x
		for range 20 {
			y.Step(other, 1)
		}
		left(t, x, before)
		left(t, &y, 0)
		for range 20 {
			x.Step(m, 1)
		}
		left(t, x, 0)
		store(t, m, head(1), 3)
		tells(t, x, m, loads(head(1), 3, moved()), g.ends())
		tells(t, &y, other, loads(head(1), 2, waits()))
	}
}

// R3: what is handed in isn't kept, nor its spare room, nor written into: it is the caller's to change.
func TestListNotKept(t *testing.T) {
	g := given{4, true, 2, inWords(4, 2)}
	list := slices.Clone(g.list)
	list = append(list, api.Write{Cell: 1023, Value: 77})[:2]
	handed := slices.Clone(list[:3])
	c := api.Config{Ring: 4, Multi: true}
	x, _ := back.New(c, 2, list)
	if !slices.Equal(list[:3], handed) {
		t.Error("what was handed in changed")
	}
	for i := range list[:3] {
		list[:3][i] = api.Write{Cell: 1 << 40, Value: -1}
	}
	c.Ring, c.Multi = 2, false
	m := memory(t, 1023, 1, 3, 1, 1)
	tells(t, x, m, g.lays()...)
	tells(t, x, m, loads(head(1), 3, moved()))
	tells(t, x, m, append(g.writes(), g.ends())...)
	for _, write := range list[:3] {
		if write.Cell != 1<<40 || write.Value != -1 {
			t.Errorf("what was handed in became %+v", write)
		}
	}
}

// R4: the same calls get the same answers.
func TestSameAgain(t *testing.T) {
	run := func() string {
		seed := strewn(6)
		said := ""
		for range 50 {
			g := given{1 + seed.below(16), seed.below(2) == 0, int64(1 + seed.below(30)), seed.someWrites(9)}
			m := memory(t, 9, older(g.size, g.stamp, g.stamp-2)...)
			x := made(t, g)
			for range 40 {
				a, v := scribble(&seed, g)
				store(t, m, a, v)
				said += fmt.Sprint(x.Step(m, seed.below(9)), x.Left())
			}
			said += fmt.Sprint(x.Sig(), m.Log(0))
		}
		return said
	}
	if run() != run() {
		t.Error("two runs differ")
	}
}

// P11.3: when all older entries are complete from the beginning it makes len(l) + 11 accesses with Multi, where there is something to look at, and one less without.
func TestSoonComplete(t *testing.T) {
	for size := 1; size <= 16; size++ {
		for _, stamp := range someStamps() {
			for n := range 25 {
				for _, multi := range []bool{false, true} {
					g := given{size, multi, stamp, make([]api.Write, n)}
					want := n + 10
					if multi && size > 1 && stamp > 1 {
						want++
					}
					m := memory(t, 1, older(size, stamp, stamp)...)
					x := made(t, g)
					if got, waited := rest(x, m); got != want || waited {
						t.Errorf("%+v: %d accesses, waited %v", g, got, waited)
					}
				}
			}
		}
	}
}

// P11.3: from wherever it stands when all older entries become complete, it makes at most len(l) + 11 accesses more, and waits no more; some make as many.
func TestSoonCompleteFromAnywhere(t *testing.T) {
	longest := map[int]int{}
	for _, size := range []int{2, 3, 4, 16} {
		for _, stamp := range []int64{2, 3, 9, 40} {
			for _, list := range [][]api.Write{nil, inWords(0), inWords(7, 6, 5, 4, 3, 2, 1, 0)} {
				for _, shared := range []bool{false, true} {
					g := given{size, true, stamp, list}
					for steps := range 9 + 9*size + len(list) + 9 {
						m := memory(t, 1024, older(size, stamp, 0)...)
						if shared {
							lay(t, m, g.slot(g.last()), sig.Of(inWord(0, 0)))
						}
						x := made(t, g)
						for range steps {
							x.Step(m, 0)
						}
						for s := g.last(); s < stamp; s++ {
							store(t, m, g.headOf(s), 2*s+1)
						}
						got, waited := rest(x, m)
						if got > len(list)+11 || waited {
							t.Errorf("%+v, behind %d steps: %d accesses, waited %v", g, steps, got, waited)
						}
						longest[len(list)-got]++
					}
				}
			}
		}
	}
	if longest[-11] < 10 {
		t.Errorf("%v", longest)
	}
}

// rest is how many accesses a machine makes till it is through (or far too many), and whether it waits at one.
func rest(x *back.Machine, m *mem.Mem) (int, bool) {
	waited := false
	for n := range 100 {
		a := x.Step(m, 0)
		if a == none() {
			return n, waited
		}
		waited = waited || a == waits()
	}
	return 100, waited
}

// writer is a transaction that read nothing: it publishes its entry by a machine of chapter 10, and writes back.
type writer struct {
	list  []api.Write
	first *commit.Machine
	then  *back.Machine // nil: not published yet
	stamp int64
	soon  int // accesses from when all older entries are complete
}

// crowd are writers over one memory, a step at a time.
type crowd struct {
	m       *mem.Mem
	c       api.Config
	seed    *strewn
	entries []*writer // the first one has the stamp 1
	waited  int
	most    int // how many made as many accesses as they may, from when all older ones were complete
}

// begin is a new writer.
func (c *crowd) begin(t *testing.T, cells int) *writer {
	t.Helper()
	first, why := commit.New(c.c, ring.Complete(c.m), api.Sig{})
	if why != api.OK {
		t.Fatalf("commit: error %d", why)
	}
	return &writer{list: c.seed.someWrites(cells), first: first}
}

// act makes a step of a writer; false: it is through.
func (c *crowd) act(t *testing.T, w *writer, thread int) bool {
	t.Helper()
	if w.then != nil {
		return c.back(t, w, thread)
	}
	if a := w.first.Step(c.m, thread); a.Kind == api.AnsDone {
		w.stamp = a.Value
		w.then, _ = back.New(c.c, w.stamp, w.list)
		c.entries = append(c.entries, w)
	}
	return true
}

// back makes a step of a writer that has published.
func (c *crowd) back(t *testing.T, w *writer, thread int) bool {
	t.Helper()
	complete, before := ring.Complete(c.m), c.m.Count()
	a := w.then.Step(c.m, thread)
	c.rightly(t, w, complete, c.m.Log(before)[0])
	if complete >= w.stamp-1 {
		w.soon++
		if a == waits() || w.soon > len(w.list)+11 {
			t.Fatalf("%+v of %+v, all older ones complete: %+v, as access %d", w, c.c, a, w.soon)
		}
	}
	if a == waits() {
		c.waited++
	}
	if a != done() {
		return true
	}
	if w.soon == len(w.list)+11 {
		c.most++
	}
	if complete != w.stamp-1 || ring.Complete(c.m) != w.stamp {
		t.Fatalf("%d became complete when %d was", w.stamp, complete)
	}
	return false
}

// rightly: a cell is written only when the older entries that may write it are complete, and all words are of that entry's own slot.
func (c *crowd) rightly(t *testing.T, w *writer, complete int64, access api.Access) {
	t.Helper()
	if access.Kind != api.AccStore {
		return
	}
	if access.Addr.Kind != api.AddrCell {
		if access.Addr.I != int(w.stamp)%c.c.Ring {
			t.Fatalf("%d stores %+v", w.stamp, access)
		}
		return
	}
	for s := complete + 1; s < w.stamp; s++ {
		if sig.Meets(c.entries[s-1].then.Sig(), w.then.Sig()) {
			t.Fatalf("%d writes, and %d, of the same bits, isn't complete", w.stamp, s)
		}
	}
}

// P11.3, P11.2: of writers beside each other, of both kinds of configurations, each is soon complete when all older ones are; they get complete in the order of their stamps; and the cells hold what comes of them one behind the other.
func TestWritersBesideEachOther(t *testing.T) {
	seed := strewn(7)
	for _, multi := range []bool{false, true} {
		waited, most, published := 0, 0, 0
		for round := range 300 {
			size, cells := 1+round%7, 2+seed.below(60)
			m, _ := mem.New(cells, size)
			c := &crowd{m: m, seed: &seed, c: api.Config{Ring: size, Stamps: 1 << 40, Multi: multi}}
			at := make([]*writer, 5)
			for i := range 1500 {
				k := seed.below(5)
				if at[k] == nil {
					if i > 1000 {
						continue
					}
					at[k] = c.begin(t, cells)
				}
				if !c.act(t, at[k], k) {
					at[k] = nil
				}
			}
			// Whoever is left goes on till all are through.
			for range 500 {
				for k, w := range at {
					if w != nil && !c.act(t, w, k) {
						at[k] = nil
					}
				}
			}
			c.heldAtTheEnd(t, cells)
			waited, most, published = waited+c.waited, most+c.most, published+len(c.entries)
		}
		if (waited > 1000) != multi || published < 5000 || multi && most < 50 {
			t.Errorf("multi %v: %d waited, %d made as many accesses as they may, of %d", multi, waited, most, published)
		}
	}
}

// heldAtTheEnd: all is complete, and the cells hold what the entries write, one behind the other.
func (c *crowd) heldAtTheEnd(t *testing.T, cells int) {
	t.Helper()
	if n := int64(len(c.entries)); ring.Complete(c.m) != n || ring.Newest(c.m) != n {
		t.Fatalf("%+v: %d complete, the newest stamp %d, of %d", c.c, ring.Complete(c.m), ring.Newest(c.m), n)
	}
	want := make([]int64, cells)
	for _, w := range c.entries {
		for _, write := range w.list {
			want[write.Cell] = write.Value
		}
	}
	for cell, v := range want {
		if got := peek(t, c.m, cellAt(cell)); got != v {
			t.Fatalf("%+v: cell %d is %d, not %d", c.c, cell, got, v)
		}
	}
}
