package fetch_test

import (
	"fmt"
	"math"
	"slices"
	"testing"

	"carousel/api"
	"carousel/check"
	"carousel/fetch"
	"carousel/mem"
	"carousel/sig"
)

func newest() api.Addr                { return api.Addr{Kind: api.AddrNewest} }
func head(slot int) api.Addr          { return api.Addr{Kind: api.AddrHead, I: slot} }
func sigWord(slot, word int) api.Addr { return api.Addr{Kind: api.AddrSig, I: slot, J: word} }
func cellAt(cell int) api.Addr        { return api.Addr{Kind: api.AddrCell, I: cell} }

// The answers that a step has.
func none() api.Answer        { return api.Answer{} }
func waits() api.Answer       { return api.Answer{Kind: api.AnsWait, Access: true} }
func moved() api.Answer       { return api.Answer{Kind: api.AnsMoved, Access: true} }
func done(v int64) api.Answer { return api.Answer{Kind: api.AnsDone, Value: v, Access: true} }
func conflict() api.Answer {
	return api.Answer{Kind: api.AnsFailed, Err: api.ErrConflict, Access: true}
}
func overrun() api.Answer {
	return api.Answer{Kind: api.AnsFailed, Err: api.ErrOverrun, Access: true}
}

// given is what a machine is made of.
type given struct {
	size  int
	start int64
	reads api.Sig
	cell  int
}

// made is a machine that must be there.
func made(t *testing.T, g given) *fetch.Machine {
	t.Helper()
	x, why := fetch.New(g.size, g.start, g.reads, g.cell)
	if x == nil || why != api.OK {
		t.Fatalf("New of %+v: %v, error %d", g, x, why)
	}
	return x
}

// memory is one of so many cells, with a newest stamp, and a head word for each of its slots.
func memory(t *testing.T, cells int, newestStamp int64, heads ...int64) *mem.Mem {
	t.Helper()
	m, why := mem.New(cells, len(heads))
	if m == nil || why != api.OK {
		t.Fatalf("a memory of %d cells and %d slots: error %d", cells, len(heads), why)
	}
	store(t, m, newest(), newestStamp)
	for slot, word := range heads {
		store(t, m, head(slot), word)
	}
	return m
}

// store puts a word where it must be possible.
func store(t *testing.T, m *mem.Mem, a api.Addr, v int64) {
	t.Helper()
	if why := m.Store(99, a, v); why != api.OK {
		t.Fatalf("Store to %+v: error %d", a, why)
	}
}

// lay puts a signature into a slot.
func lay(t *testing.T, m *mem.Mem, slot int, s api.Sig) {
	t.Helper()
	for j, word := range s {
		store(t, m, sigWord(slot, j), int64(word))
	}
}

// laid are the head words of a ring in which all stamps above start, up to start and size, are laid; those below a stamp are done, too.
func laid(size int, start, doneBelow int64) []int64 {
	heads := make([]int64, size)
	for i := range int64(size) {
		s := start + 1 + i
		heads[s%int64(size)] = 2 * s
		if s < doneBelow {
			heads[s%int64(size)]++
		}
	}
	return heads
}

// full is the signature that has all bits.
func full() api.Sig {
	var s api.Sig
	for j := range s {
		s[j] = math.MaxUint64
	}
	return s
}

// but is a signature with all bits that another hasn't.
func but(s api.Sig) api.Sig {
	for j := range s {
		s[j] = ^s[j]
	}
	return s
}

// strewn gives numbers that are spread out, the same ones each time.
type strewn uint64

func (s *strewn) below(n int) int {
	*s = *s*6364136223846793005 + 1442695040888963407
	return int(uint64(*s>>33) % uint64(n))
}

// someReads are signatures of all kinds: of no bit, of few, of all.
func (s *strewn) someReads() api.Sig {
	switch s.below(6) {
	case 0, 1:
		return api.Sig{}
	case 2:
		return full()
	}
	return sig.Of(s.below(50), s.below(50))
}

// Numbers that no ring has as its size, no start stamp is, no cell is.
func noSizes() []int {
	return []int{math.MinInt, math.MinInt32, -1 << 32, -16, -2, -1, 0, 17, 18, 32, 256, 257, 1 << 32, 1<<32 + 1, 1<<32 + 16, math.MaxInt32, math.MaxInt}
}

func noStarts() []int64 {
	return []int64{-1, -2, -16, -17, math.MinInt32, -1 << 32, -1 << 62, math.MinInt64 + 1, math.MinInt64}
}

func noCells() []int {
	return []int{math.MinInt, math.MinInt32, -1 << 32, -1024, -2, -1, 1024, 1025, 2047, 2048, 1 << 31, 1 << 32, 1<<32 + 3, 1<<40 + 7, math.MaxInt32, math.MaxInt}
}

// odd are numbers that a word may be, at the ends and between.
func odd() []int64 {
	return []int64{math.MinInt64, math.MinInt64 + 1, -1 << 32, -1024, -1, 0, 1, 2, 77, 1 << 31, 1 << 32, 1 << 53, math.MaxInt64 - 1, math.MaxInt64}
}

// tells: over a memory a machine's steps load these words, and are answered so; behind that Start is as told.
func tells(t *testing.T, g given, m *mem.Mem, addrs []api.Addr, answers []api.Answer, start, seen int64, yes bool) {
	t.Helper()
	x := made(t, g)
	for i, want := range answers {
		before := m.Count()
		got := x.Step(m, 3+i)
		log := m.Log(before)
		if got != want || len(log) != 1 || log[0].Kind != api.AccLoad || log[0].Thread != 3+i || log[0].Addr != addrs[i] {
			t.Errorf("%+v: step %d: %+v by %+v, not %+v by a load of %+v", g, i, got, log, want, addrs[i])
		}
	}
	if s, n, y := x.Start(); s != start || n != seen || y != yes {
		t.Errorf("%+v: Start %d %d %v, not %d %d %v", g, s, n, y, start, seen, yes)
	}
}

// P9.1 to P9.3: the chapter's first example: over a new memory.
func TestExampleNewMemory(t *testing.T) {
	m, _ := mem.New(4, 4)
	tells(t, given{4, 0, sig.Of(), 3}, m,
		[]api.Addr{cellAt(3), newest()}, []api.Answer{moved(), done(0)}, 0, 0, true)
}

// P9.1, P9.2: the chapter's second example: what there is no machine for, and a memory that lacks the cell.
func TestExampleRefuses(t *testing.T) {
	for _, g := range []given{{4, 0, sig.Of(), 1024}, {4, -1, sig.Of(), 0}, {17, 0, sig.Of(), 0}} {
		if x, why := fetch.New(g.size, g.start, g.reads, g.cell); x != nil || why != api.ErrArg {
			t.Errorf("New of %+v: %v, error %d", g, x, why)
		}
	}
	m, _ := mem.New(3, 4)
	if got := made(t, given{4, 0, sig.Of(), 3}).Step(m, 0); got != none() || m.Count() != 0 {
		t.Errorf("over three cells: %+v, %d accesses", got, m.Count())
	}
}

// P9.2, P9.3: the chapter's third example: what is read is held against an entry that writes the cell 3.
func TestExampleHeld(t *testing.T) {
	m := memory(t, 8, 1, 1, 2, 1, 1)
	lay(t, m, 1, sig.Of(3))
	word := sig.Bits(sig.Of(3))[0] / 64
	tells(t, given{4, 0, sig.Of(), 3}, m,
		[]api.Addr{cellAt(3), newest(), head(1), sigWord(1, word)},
		[]api.Answer{moved(), moved(), moved(), conflict()}, 0, 0, false)
	word = sig.Bits(sig.Of(4))[0] / 64
	tells(t, given{4, 0, sig.Of(), 4}, m,
		[]api.Addr{cellAt(4), newest(), head(1), sigWord(1, word), newest()},
		[]api.Answer{moved(), moved(), moved(), moved(), done(0)}, 0, 1, true)
}

// P9.1: every size, starts of every size, and cells up to the last: a new machine made no access, isn't through, and reads the cell.
func TestNew(t *testing.T) {
	for size := 1; size <= 16; size++ {
		for _, start := range []int64{0, 1, 2, 16, 17, 1 << 31, 1 << 32, 1 << 40, 1 << 62, math.MaxInt64} {
			for _, cell := range []int{0, 1, 2, 63, 64, 511, 512, 1022, 1023} {
				g := given{size, start, sig.Of(5), cell}
				x := made(t, g)
				if s, n, yes := x.Start(); s != 0 || n != 0 || yes {
					t.Errorf("%+v: Start %d %d %v", g, s, n, yes)
				}
				heads := make([]int64, size)
				m := memory(t, cell+1, start, heads...)
				store(t, m, cellAt(cell), -9)
				tells(t, g, m, []api.Addr{cellAt(cell), newest()}, []api.Answer{moved(), done(-9)}, start, start, true)
			}
		}
	}
}

// P9.1: sizes that no ring has, starts below 0, and cells that there are not, alone and together.
func TestNewRefuses(t *testing.T) {
	refused := func(size int, start int64, cell int) {
		for _, reads := range []api.Sig{{}, sig.Of(1), full()} {
			if x, why := fetch.New(size, start, reads, cell); x != nil || why != api.ErrArg {
				t.Errorf("New(%d, %d, %d): %v, error %d", size, start, cell, x, why)
			}
		}
	}
	for _, size := range noSizes() {
		for _, start := range append([]int64{0, 1, math.MaxInt64}, noStarts()...) {
			for _, cell := range append([]int{0, 3, 1023}, noCells()...) {
				refused(size, start, cell)
			}
		}
	}
	for size := 1; size <= 16; size++ {
		for _, start := range noStarts() {
			for _, cell := range append([]int{0, 3, 1023}, noCells()...) {
				refused(size, start, cell)
			}
		}
		for _, cell := range noCells() {
			refused(size, 0, cell)
			refused(size, math.MaxInt64, cell)
		}
	}
}

// P9.1: Reads has what was read ahead and the cell, for every cell, also where it was read already.
func TestReads(t *testing.T) {
	for cell := range 1024 {
		for _, reads := range []api.Sig{{}, sig.Of(1), sig.Of(cell), sig.Of(cell, 7, 1000), but(sig.Of(cell)), full()} {
			got := made(t, given{4, 0, reads, cell}).Reads()
			if got != sig.With(reads, cell) || !sig.Has(got, cell) || sig.Union(got, reads) != got {
				t.Errorf("cell %d, reads %s: %s", cell, sig.Text(reads), sig.Text(got))
			}
		}
	}
}

// P9.1: Reads is the same from the beginning on, through every answer and behind each end.
func TestReadsStays(t *testing.T) {
	want := sig.Of(1, 3)
	for name, m := range map[string]*mem.Mem{
		"done":     memory(t, 4, 1, 1, 3, 1, 1),
		"waits":    memory(t, 4, 1, 1, 1, 1, 1),
		"conflict": wrote(t, 3),
		"overrun":  memory(t, 4, 5, 1, 1, 1, 1),
		"lacks":    memory(t, 3, 1, 1, 3, 1, 1),
	} {
		x := made(t, given{4, 0, sig.Of(1), 3})
		for i := range 12 {
			if got := x.Reads(); got != want {
				t.Errorf("%s: ahead of step %d: %s", name, i, sig.Text(got))
			}
			x.Step(m, 0)
		}
	}
}

// wrote is a memory of four slots and cells in which the entry 1, laid, writes a cell.
func wrote(t *testing.T, cell int) *mem.Mem {
	t.Helper()
	m := memory(t, 4, 1, 1, 2, 1, 1)
	lay(t, m, 1, sig.Of(cell))
	return m
}

// P9.2: the first access is a load of the cell, of every cell, whatever it holds and whatever the ring says; the answer has no value.
func TestFirstAccess(t *testing.T) {
	for cell := range 1024 {
		m := memory(t, cell+1+cell%3*(1024-cell-1)/2, math.MaxInt64-int64(cell), -5, 7)
		store(t, m, cellAt(cell), odd()[cell%len(odd())])
		tells(t, given{2, int64(cell), sig.Of(1), cell}, m, []api.Addr{cellAt(cell)}, []api.Answer{moved()}, 0, 0, false)
	}
}

// P9.2: the value that is told is what the first access told, of every kind of number; what the cell becomes behind that doesn't count, nor what other cells hold.
func TestValue(t *testing.T) {
	for _, value := range odd() {
		for _, other := range []int64{0, ^value} {
			m := memory(t, 4, 2, 1, 3, 5, 1)
			for cell := range 4 {
				store(t, m, cellAt(cell), other)
			}
			store(t, m, cellAt(2), value)
			x := made(t, given{4, 1, sig.Of(0, 2), 2})
			var got api.Answer
			for i := range 9 {
				if a := x.Step(m, 0); a != none() {
					got = a
					if a.Kind != api.AnsDone && a != moved() {
						t.Fatalf("step %d: %+v", i, a)
					}
				}
				store(t, m, cellAt(2), other+int64(i))
			}
			if got != done(value) {
				t.Errorf("%d, then %d: %+v", value, other, got)
			}
		}
	}
}

// P9.2: only where it is through by AnsDone there is a value.
func TestNoValue(t *testing.T) {
	for name, c := range map[string]struct {
		m    *mem.Mem
		want api.Answer
	}{
		"waits":    {memory(t, 4, 1, 1, 1, 1, 1), waits()},
		"conflict": {wrote(t, 3), conflict()},
		"overrun":  {memory(t, 4, 5, 1, 1, 1, 1), overrun()},
		"gone":     {memory(t, 4, 1, 1, 11, 1, 1), overrun()},
	} {
		store(t, c.m, cellAt(3), 77)
		x := made(t, given{4, 0, api.Sig{}, 3})
		var last api.Answer
		for range 8 {
			if a := x.Step(c.m, 0); a != none() {
				last = a
				if a.Value != 0 {
					t.Errorf("%s: %+v", name, a)
				}
			}
		}
		if start, seen, yes := x.Start(); last != c.want || start != 0 || seen != 0 || yes {
			t.Errorf("%s: %+v, Start %d %d %v", name, last, start, seen, yes)
		}
	}
}

// P9.2: the cell's own bit is held against the entries, and so is every bit that was read ahead; no other bit is.
func TestHeldBits(t *testing.T) {
	for cell := range 64 {
		for _, ahead := range []int{cell, 100, 700} {
			reads := sig.Of(cell, ahead)
			for _, bit := range sig.Bits(reads) {
				m := memory(t, 64, 1, 2)
				store(t, m, sigWord(0, bit/64), 1<<(bit%64))
				if got := ends(t, given{1, 0, sig.Of(ahead), cell}, m); got != conflict() {
					t.Errorf("cell %d, ahead %d, bit %d: %+v", cell, ahead, bit, got)
				}
			}
			m := memory(t, 64, 1, 2)
			lay(t, m, 0, but(reads))
			if got := ends(t, given{1, 0, sig.Of(ahead), cell}, m); got != done(0) {
				t.Errorf("cell %d, ahead %d, all other bits: %+v", cell, ahead, got)
			}
		}
	}
}

// ends is the answer by which a machine is through.
func ends(t *testing.T, g given, m *mem.Mem) api.Answer {
	t.Helper()
	x := made(t, g)
	for range 200 {
		if a := x.Step(m, 0); a.Kind == api.AnsDone || a.Kind == api.AnsFailed {
			return a
		}
	}
	t.Fatalf("%+v is not through", g)
	return none()
}

// P9.2: it looks again at the newest stamp in the end: above the start by more than the size it is an overrun.
func TestLastLook(t *testing.T) {
	for size := 1; size <= 16; size++ {
		s := int64(size)
		for _, start := range []int64{0, 1, 7, 1 << 40, 1<<62 - 20} {
			for again, want := range map[int64]api.Answer{start - 1: done(5), start + 1: done(5), start + s: done(5), start + s + 1: overrun(), math.MaxInt64: overrun(), math.MinInt64: done(5)} {
				m := memory(t, 3, start+1, laid(size, start, start+2)...)
				store(t, m, cellAt(2), 5)
				x := made(t, given{size, start, sig.Of(), 2})
				for range 4 {
					if got := x.Step(m, 0); got != moved() {
						t.Fatalf("size %d, start %d: %+v", size, start, got)
					}
				}
				store(t, m, newest(), again)
				if got := x.Step(m, 0); got != want {
					t.Errorf("size %d, start %d, again %d: %+v", size, start, again, got)
				}
				if _, seen, yes := x.Start(); yes != (want == done(5)) || yes && seen != start+1 {
					t.Errorf("size %d, start %d, again %d: Start .. %d %v", size, start, again, seen, yes)
				}
			}
		}
	}
}

// twins are two memories that hold the same words.
type twins struct{ m, like *mem.Mem }

// both makes two memories of the same words.
func both(t *testing.T, cells int, newestStamp int64, heads ...int64) twins {
	t.Helper()
	return twins{memory(t, cells, newestStamp, heads...), memory(t, cells, newestStamp, heads...)}
}

// put stores into both.
func (w twins) put(t *testing.T, a api.Addr, v int64) {
	t.Helper()
	store(t, w.m, a, v)
	store(t, w.like, a, v)
}

// agrees: behind the load of the cell a machine does over a memory what chapter 8's does over one of the same words, till both are through, or so many steps are made, ahead of each of which something may be written; it answers the last answer, and how many steps moved it on.
func agrees(t *testing.T, g given, w twins, steps int, meanwhile func()) (api.Answer, int) {
	t.Helper()
	x := made(t, g)
	reads := sig.With(g.reads, g.cell)
	held, _ := check.New(g.size, g.start, reads, true)
	meanwhile()
	value, _ := w.m.Peek(cellAt(g.cell))
	before := w.m.Count()
	last := x.Step(w.m, 3)
	if log := w.m.Log(before); last != moved() || !slices.Equal(log, []api.Access{{Thread: 3, Kind: api.AccLoad, Addr: cellAt(g.cell), Value: value}}) {
		t.Fatalf("%+v: the first step: %+v by %+v", g, last, log)
	}
	acted := 1
	for i := range steps {
		alike(t, g, x, held)
		meanwhile()
		before, beforeLike := w.m.Count(), w.like.Count()
		want := held.Step(w.like, 4+i)
		if want.Kind == api.AnsDone {
			want.Value = value
		}
		got := x.Step(w.m, 4+i)
		if got != want || !slices.Equal(w.m.Log(before), w.like.Log(beforeLike)) || x.Reads() != reads {
			t.Fatalf("%+v: step %d: %+v by %+v, not %+v", g, i, got, w.m.Log(before), want)
		}
		if got == none() {
			break
		}
		if got != waits() {
			acted++
		}
		last = got
	}
	alike(t, g, x, held)
	return last, acted
}

// alike: Start tells what chapter 8's machine does.
func alike(t *testing.T, g given, x *fetch.Machine, held *check.Machine) {
	t.Helper()
	start, seen, yes := x.Start()
	if s, n, y := held.Start(); start != s || seen != n || yes != y {
		t.Fatalf("%+v: Start %d %d %v, not %d %d %v", g, start, seen, yes, s, n, y)
	}
}

// P9.2, P9.3: rings of every size, with stamps of every size, mostly laid, some of them done, some of another stamp, whose signatures have few bits; it makes one access more than chapter 8's machine.
func TestAllRings(t *testing.T) {
	seed := strewn(1)
	kinds := map[api.Answer]int{}
	for size := 1; size <= 16; size++ {
		for _, middle := range []int64{0, 3, 1000, 1 << 31, 1 << 32, 1 << 40, 1<<62 - 100} {
			for range 40 {
				g := given{size, middle + int64(seed.below(20)), seed.someReads(), seed.below(50)}
				stamp := g.start + int64(seed.below(size+1))
				w := both(t, 50, stamp, laid(size, g.start, g.start+int64(seed.below(20)))...)
				w.put(t, cellAt(g.cell), int64(g.cell+7))
				if seed.below(2) == 0 {
					w.put(t, sigWord(seed.below(size), seed.below(8)), 1<<seed.below(64))
				}
				if seed.below(4) == 0 {
					w.put(t, head(seed.below(size)), 2*(g.start+int64(seed.below(40))-20))
				}
				last, acted := agrees(t, g, w, 3+9*size, func() {})
				if acted > 3+9*size {
					t.Fatalf("%+v: %d accesses", g, acted)
				}
				last.Value = 0
				kinds[last]++
			}
		}
	}
	for _, answer := range []api.Answer{done(0), conflict(), overrun(), waits()} {
		if kinds[answer] < 100 {
			t.Errorf("just %d ended with %+v", kinds[answer], answer)
		}
	}
}

// P9.2, P9.3: whatever others write meanwhile, into the ring and the cells, it does what its chapter tells.
func TestOthersWrite(t *testing.T) {
	seed := strewn(3)
	kinds := map[api.Answer]int{}
	for round := range 4000 {
		size := 1 + round%16
		g := given{size, int64(seed.below(6)), seed.someReads(), seed.below(6)}
		w := both(t, 6, g.start+int64(seed.below(size+1)), laid(size, g.start, g.start+3)...)
		last, acted := agrees(t, g, w, 300, func() {
			if seed.below(6) == 0 {
				a, v := scribble(&seed, g)
				w.put(t, a, v)
			}
		})
		if acted > 3+9*size {
			t.Fatalf("%+v: %d accesses", g, acted)
		}
		last.Value = 0
		kinds[last]++
	}
	for _, answer := range []api.Answer{done(0), conflict(), overrun()} {
		if kinds[answer] < 100 {
			t.Errorf("just %d ended with %+v", kinds[answer], answer)
		}
	}
}

// scribble is a word to be written, mostly such as an entry has.
func scribble(seed *strewn, g given) (api.Addr, int64) {
	s := g.start + 1 + int64(seed.below(g.size))
	slot := int(s % int64(g.size))
	switch seed.below(10) {
	case 0:
		return newest(), g.start + int64(seed.below(g.size+3)) - 1
	case 1:
		return sigWord(slot, seed.below(8)), 1 << seed.below(64)
	case 2:
		return head(slot), 2*s - int64(seed.below(5))
	case 3:
		return head(slot), 2 * (s + int64(seed.below(2)*g.size))
	case 4, 5, 6:
		return cellAt(g.cell), int64(seed.below(1000))
	}
	return head(slot), 2*s + int64(seed.below(2))
}

// P9.2, P9.3: behind its end, by which answer ever, it makes no access, and tells the same, whatever is written.
func TestThrough(t *testing.T) {
	type start struct {
		start, seen int64
		yes         bool
	}
	for name, c := range map[string]struct {
		m    *mem.Mem
		want start
	}{
		"done":     {memory(t, 4, 1, 1, 3, 1, 1), start{1, 1, true}},
		"overrun":  {memory(t, 4, 9, 1, 3, 5, 1), start{}},
		"gone":     {memory(t, 4, 1, 1, 11, 1, 1), start{}},
		"conflict": {wrote(t, 3), start{}},
	} {
		x := made(t, given{4, 0, sig.Of(), 3})
		for range 5 {
			x.Step(c.m, 0)
		}
		for i := range 20 {
			store(t, c.m, newest(), int64(i))
			store(t, c.m, head(i%4), int64(4*i))
			store(t, c.m, cellAt(3), int64(i))
			before := c.m.Count()
			if got := x.Step(c.m, i); got != none() || c.m.Count() != before {
				t.Errorf("%s: step %d behind the end: %+v", name, i, got)
			}
			var got start
			if got.start, got.seen, got.yes = x.Start(); got != c.want {
				t.Errorf("%s: Start behind the end: %+v", name, got)
			}
		}
	}
}

// P9.2, R1: a nil memory, one with another number of slots, and one that lacks the cell, is none, in every state; and the machine goes on behind that as if nothing had been.
func TestOtherMemories(t *testing.T) {
	for size := 1; size <= 16; size++ {
		g := given{size, 40, full(), 9}
		m := memory(t, 10, 40+int64(size), laid(size, 40, 42)...)
		store(t, m, cellAt(9), 123)
		x := made(t, g)
		var last api.Answer
		for i := range 5 + 9*size {
			if i < 30 || i > 9*size-2 {
				refuses(t, x, g)
			}
			if a := x.Step(m, 5); a != none() {
				last = a
			}
		}
		if start, seen, yes := x.Start(); last != done(123) || start != 41 || seen != 40+int64(size) || !yes {
			t.Errorf("size %d: %+v, Start %d %d %v", size, last, start, seen, yes)
		}
	}
}

// P9.2, R1: also a machine that waits, or has failed, makes nothing of another memory.
func TestOtherMemoriesWaitingAndFailed(t *testing.T) {
	g := given{4, 0, sig.Of(), 3}
	for _, c := range []struct {
		m    *mem.Mem
		want api.Answer
	}{{memory(t, 4, 1, 1, 1, 1, 1), waits()}, {wrote(t, 3), none()}, {memory(t, 4, 5, 1, 1, 1, 1), none()}} {
		x := made(t, g)
		for range 6 {
			refuses(t, x, g)
			x.Step(c.m, 5)
		}
		if got := x.Step(c.m, 5); got != c.want {
			t.Errorf("%+v, not %+v", got, c.want)
		}
	}
}

// refuses: a machine makes nothing of memories that aren't its own kind's.
func refuses(t *testing.T, x *fetch.Machine, g given) {
	t.Helper()
	start, seen, yes := x.Start()
	if got := x.Step(nil, 5); got != none() {
		t.Errorf("a nil memory: %+v", got)
	}
	nothing := func(cells, slots int) {
		other, _ := mem.New(cells, slots)
		if got := x.Step(other, 5); got != none() || other.Count() != 0 {
			t.Errorf("%+v over %d cells and %d slots: %+v, %d accesses", g, cells, slots, got, other.Count())
		}
	}
	for slots := 1; slots <= 16; slots++ {
		if slots != g.size {
			nothing(g.cell+1, slots)
		}
	}
	for cells := 1; cells <= g.cell; cells++ {
		nothing(cells, g.size)
	}
	if s, n, y := x.Start(); s != start || n != seen || y != yes {
		t.Errorf("Start became %d %d %v", s, n, y)
	}
}

// P9.2: a memory has the cell or lacks it, by a cell, for every cell.
func TestLacksByOne(t *testing.T) {
	for cell := 1; cell < 1024; cell++ {
		x := made(t, given{1, 0, sig.Of(), cell})
		lacks, _ := mem.New(cell, 1)
		if got := x.Step(lacks, 0); got != none() || lacks.Count() != 0 {
			t.Fatalf("cell %d of as many: %+v", cell, got)
		}
		has, _ := mem.New(cell+1, 1)
		if got := x.Step(has, 0); got != moved() {
			t.Fatalf("cell %d, the last: %+v", cell, got)
		}
		if got := x.Step(lacks, 0); got != none() || lacks.Count() != 0 {
			t.Fatalf("cell %d of as many, then: %+v", cell, got)
		}
		if got := x.Step(has, 0); got != done(0) {
			t.Fatalf("cell %d, the last, then: %+v", cell, got)
		}
	}
}

// R1: a nil machine, and one that New didn't make.
func TestNoMachine(t *testing.T) {
	for _, x := range []*fetch.Machine{nil, new(fetch.Machine)} {
		m := memory(t, 4, 2, 1, 3, 0, 1)
		before := m.Count()
		if got := x.Step(m, 0); got != none() || m.Count() != before {
			t.Errorf("Step: %+v", got)
		}
		for _, nothing := range []*mem.Mem{nil, new(mem.Mem)} {
			if got := x.Step(nothing, 0); got != none() {
				t.Errorf("Step over no memory: %+v", got)
			}
		}
		if start, seen, yes := x.Start(); start != 0 || seen != 0 || yes {
			t.Errorf("Start: %d %d %v", start, seen, yes)
		}
		if got := x.Reads(); got != (api.Sig{}) {
			t.Errorf("Reads: %s", sig.Text(got))
		}
	}
}

// P9.2: whatever the thread is, also one that may not be, it is in the access, and nothing else hangs on it.
func TestThreads(t *testing.T) {
	for _, thread := range []int{math.MinInt, -1 << 32, -1, 0, 7, 8, 9, 1 << 32, math.MaxInt} {
		m := memory(t, 4, 1, 1, 3, 1, 1)
		store(t, m, cellAt(2), 6)
		before := m.Count()
		x := made(t, given{4, 0, sig.Of(), 2})
		for _, want := range []api.Answer{moved(), moved(), moved(), moved(), done(6), none()} {
			if got := x.Step(m, thread); got != want {
				t.Errorf("thread %d: %+v", thread, got)
			}
		}
		want := []api.Access{
			{Thread: thread, Kind: api.AccLoad, Addr: cellAt(2), Value: 6},
			{Thread: thread, Kind: api.AccLoad, Addr: newest(), Value: 1},
			{Thread: thread, Kind: api.AccLoad, Addr: head(1), Value: 3},
			{Thread: thread, Kind: api.AccLoad, Addr: sigWord(1, 1)},
			{Thread: thread, Kind: api.AccLoad, Addr: newest(), Value: 1},
		}
		if got := m.Log(before); !slices.Equal(got, want) {
			t.Errorf("thread %d: %+v", thread, got)
		}
	}
}

// R4: of two memories of one kind each access is one of that which is handed in.
func TestTwoMemories(t *testing.T) {
	one, two := memory(t, 4, 1, 1, 1, 1, 1), memory(t, 9, 3, 1, 2, 1, 1)
	store(t, one, cellAt(2), 11)
	store(t, two, cellAt(2), 22)
	x := made(t, given{4, 0, sig.Of(), 2})
	for i, s := range []struct {
		m    *mem.Mem
		want api.Answer
	}{{two, moved()}, {one, moved()}, {one, waits()}, {two, moved()}, {one, moved()}, {two, done(22)}, {one, none()}, {two, none()}} {
		before := s.m.Count()
		if got := x.Step(s.m, 0); got != s.want || (s.m.Count() == before+1) != s.want.Access {
			t.Errorf("step %d: %+v", i, got)
		}
	}
	if start, seen, yes := x.Start(); start != 0 || seen != 1 || !yes {
		t.Errorf("Start %d %d %v", start, seen, yes)
	}
}

// R4: machines beside each other, over one memory, of which each goes its own way: as each goes alone.
func TestMachinesApart(t *testing.T) {
	seed := strewn(2)
	for range 300 {
		size := 1 + seed.below(5)
		stamp, heads := int64(seed.below(size+4)), laid(size, 1, int64(seed.below(9)))
		slot, written := seed.below(size), sig.Of(seed.below(6), seed.below(6))
		world := func() *mem.Mem {
			m := memory(t, 6, stamp, heads...)
			for cell := range 6 {
				store(t, m, cellAt(cell), int64(10+cell))
			}
			lay(t, m, slot, written)
			return m
		}
		var all []given
		var beside []*fetch.Machine
		for range 4 {
			g := given{size, int64(seed.below(4)), sig.Of(seed.below(6)), seed.below(6)}
			all = append(all, g)
			beside = append(beside, made(t, g))
		}
		m := world()
		said := make([][]api.Answer, 4)
		for range 80 {
			i := seed.below(4)
			said[i] = append(said[i], beside[i].Step(m, i))
		}
		for i, g := range all {
			alone, n := made(t, g), world()
			for k, got := range said[i] {
				if want := alone.Step(n, 0); got != want {
					t.Fatalf("machine %d of %+v, step %d: %+v, alone %+v", i, all, k, got, want)
				}
			}
			startsAlike(t, beside[i], alone)
		}
	}
}

// startsAlike: two machines tell the same of Start and Reads.
func startsAlike(t *testing.T, x, y *fetch.Machine) {
	t.Helper()
	start, seen, yes := x.Start()
	if s, n, is := y.Start(); s != start || n != seen || is != yes || x.Reads() != y.Reads() {
		t.Fatalf("Start %d %d %v, and %d %d %v", start, seen, yes, s, n, is)
	}
}

// R3: what is handed in isn't kept, and what Reads told isn't either: both are the caller's to change.
func TestReadsNotKept(t *testing.T) {
	reads := sig.Of(5)
	x, _ := fetch.New(4, 0, reads, 2)
	reads[0], reads[7] = math.MaxUint64, math.MaxUint64
	told := x.Reads()
	told[1], told[2] = math.MaxUint64, math.MaxUint64
	if x.Reads() != sig.Of(2, 5) {
		t.Errorf("Reads: %s; the caller's: %s %s", sig.Text(x.Reads()), sig.Text(reads), sig.Text(told))
	}
	m := memory(t, 4, 1, 1, 3, 1, 1)
	lay(t, m, 1, but(sig.Of(2, 5)))
	for range 20 {
		if got := x.Step(m, 0); got.Kind == api.AnsFailed {
			t.Errorf("%+v", got)
		}
	}
	if _, _, yes := x.Start(); !yes {
		t.Error("it isn't through")
	}
}

// R4: the same calls get the same answers.
func TestSameAgain(t *testing.T) {
	run := func() string {
		seed := strewn(6)
		said := ""
		for range 50 {
			g := given{1 + seed.below(16), int64(seed.below(9)), seed.someReads(), seed.below(6)}
			m := memory(t, 6, g.start+int64(seed.below(g.size+1)), laid(g.size, g.start, g.start+2)...)
			x := made(t, g)
			for range 40 {
				a, v := scribble(&seed, g)
				store(t, m, a, v)
				said += fmt.Sprint(x.Step(m, seed.below(9)))
			}
			start, seen, yes := x.Start()
			said += fmt.Sprint(start, seen, yes, x.Reads(), m.Log(0))
		}
		return said
	}
	if run() != run() {
		t.Error("two runs differ")
	}
}

// entry is one that is under way: how many of its stores are made.
type entry struct {
	writes []api.Write
	sig    api.Sig
	stores int
}

// Of the stores of an entry: its signature, its head, its cells, and its head once more.
func (e *entry) all() int { return 8 + 1 + len(e.writes) + 1 }

// writers publish entries, lay them, write them back and make them complete as the document has it, a store at a time.
type writers struct {
	m        *mem.Mem
	size     int
	entries  []*entry // the first one has the stamp 1
	complete int      // of them, from the first one on
	seed     *strewn
	value    int64 // what was written last: each value is written once
}

// act makes one store, if what was chosen may be done now.
func (w *writers) act(t *testing.T, cells int) {
	t.Helper()
	under := len(w.entries) - w.complete
	if w.seed.below(6) == 0 || under == 0 {
		// The slot of the next stamp must be free.
		if under < w.size {
			w.publish(t, cells)
		}
		return
	}
	w.back(t, w.complete+w.seed.below(under))
}

// publish puts a new entry, of a few cells, at the end.
func (w *writers) publish(t *testing.T, cells int) {
	t.Helper()
	e := &entry{}
	for range 1 + w.seed.below(3) {
		cell := w.seed.below(cells)
		w.value++
		if !slices.ContainsFunc(e.writes, func(x api.Write) bool { return x.Cell == cell }) {
			e.writes = append(e.writes, api.Write{Cell: cell, Value: w.value})
			e.sig = sig.With(e.sig, cell)
		}
	}
	w.entries = append(w.entries, e)
	store(t, w.m, newest(), int64(len(w.entries)))
}

// back makes the next store of an entry, unless it has to wait for older ones.
func (w *writers) back(t *testing.T, i int) {
	t.Helper()
	e, stamp := w.entries[i], i+1
	slot := stamp % w.size
	switch k := e.stores; {
	case k < 8:
		store(t, w.m, sigWord(slot, k), int64(e.sig[k]))
	case k == 8:
		store(t, w.m, head(slot), int64(2*stamp))
	case k < e.all()-1:
		for _, older := range w.entries[w.complete:i] {
			if sig.Meets(older.sig, e.sig) {
				return
			}
		}
		store(t, w.m, cellAt(e.writes[k-9].Cell), e.writes[k-9].Value)
	case i > w.complete:
		return
	default:
		store(t, w.m, head(slot), int64(2*stamp+1))
		w.complete++
	}
	e.stores++
}

// wrote is what the last entry up to a stamp that writes a cell writes there; else what the cell was at first.
func (w *writers) wrote(cell int, stamp, first int64) int64 {
	v := first
	for _, e := range w.entries[:stamp] {
		for _, x := range e.writes {
			if x.Cell == cell {
				v = x.Value
			}
		}
	}
	return v
}

// P9.4: where it tells a value, that is what the last entry up to SEEN that writes the cell writes there, else what the cell was at first; and START and SEEN are stamps of which all is so.
func TestTellsWhatHeld(t *testing.T) {
	seed := strewn(7)
	kinds := map[api.Answer]int{}
	news := 0
	for round := range 20000 {
		size, cells := 1+round%6, 2+seed.below(30)
		m, _ := mem.New(cells, size)
		for cell := range cells {
			store(t, m, cellAt(cell), int64(-1-cell))
		}
		w := &writers{m: m, size: size, seed: &seed}
		for range seed.below(200) {
			w.act(t, cells)
		}
		start := int64(w.complete)
		if seed.below(4) == 0 {
			start = max(start-2, 0)
		}
		g := given{size, start, api.Sig{}, seed.below(cells)}
		x := made(t, g)
		// Of some the writers are slow, of some they go round the ring meanwhile.
		haste := 1 + seed.below(3)*seed.below(12)
		last := none()
		for range 400 {
			for range seed.below(1 + haste) {
				w.act(t, cells)
			}
			a := x.Step(m, 0)
			if a == none() {
				break
			}
			last = a
		}
		if s, seen, yes := x.Start(); yes {
			if want := w.wrote(g.cell, seen, int64(-1-g.cell)); last != done(want) || s < start || s > seen || s > int64(w.complete) {
				t.Fatalf("%+v: %+v, not %d; Start %d %d", g, last, want, s, seen)
			}
			if seen > start {
				news++
			}
		}
		last.Value = 0
		kinds[last]++
	}
	for _, answer := range []api.Answer{done(0), conflict(), overrun()} {
		if kinds[answer] < 1000 {
			t.Errorf("just %d ended with %+v", kinds[answer], answer)
		}
	}
	if news < 1000 {
		t.Errorf("just %d were through with newer entries", news)
	}
}
