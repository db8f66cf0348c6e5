package begin_test

import (
	"fmt"
	"math"
	"slices"
	"testing"

	"carousel/api"
	"carousel/begin"
	"carousel/mem"
	"carousel/ring"
)

func newest() api.Addr       { return api.Addr{Kind: api.AddrNewest} }
func head(slot int) api.Addr { return api.Addr{Kind: api.AddrHead, I: slot} }

// The three answers that a step has.
func none() api.Answer  { return api.Answer{} }
func moved() api.Answer { return api.Answer{Kind: api.AnsMoved, Access: true} }
func done() api.Answer  { return api.Answer{Kind: api.AnsDone, Access: true} }

// made is a machine that must be there.
func made(t *testing.T, size int) *begin.Machine {
	t.Helper()
	x, why := begin.New(size)
	if x == nil || why != api.OK {
		t.Fatalf("New(%d): %v, error %d", size, x, why)
	}
	return x
}

// memory is one with a newest stamp, and a head word for each of its slots.
func memory(t *testing.T, newestStamp int64, heads ...int64) *mem.Mem {
	t.Helper()
	m, why := mem.New(2, len(heads))
	if m == nil || why != api.OK {
		t.Fatalf("a memory of %d slots: error %d", len(heads), why)
	}
	store(t, m, newest(), newestStamp)
	for slot, word := range heads {
		store(t, m, head(slot), word)
	}
	return m
}

// store puts a word where it must be possible.
func store(t *testing.T, m *mem.Mem, a api.Addr, v int64) {
	t.Helper()
	if why := m.Store(99, a, v); why != api.OK {
		t.Fatalf("Store to %+v: error %d", a, why)
	}
}

// same are so many slots of one word.
func same(size int, word int64) []int64 {
	words := make([]int64, size)
	for i := range words {
		words[i] = word
	}
	return words
}

// strewn gives numbers that are spread out, the same ones each time.
type strewn uint64

func (s *strewn) below(n int) int {
	*s = *s*6364136223846793005 + 1442695040888963407
	return int(uint64(*s>>33) % uint64(n))
}

// noSizes are numbers of slots that no ring has.
func noSizes() []int {
	return []int{math.MinInt, math.MinInt32, -1 << 32, -16, -2, -1, 0, 17, 18, 32, 256, 257, 1 << 32, 1<<32 + 1, 1<<32 + 16, math.MaxInt32, math.MaxInt}
}

// told is all that a machine says and does, up to where it is through.
type told struct {
	slots       []int // of which it loaded the head words, one behind the other
	start, seen int64
}

// expected is what P7.2 and P7.3 say of a memory that nobody writes to.
func expected(newestStamp int64, heads ...int64) told {
	size := int64(len(heads))
	if newestStamp < 1 {
		return told{start: 0, seen: newestStamp}
	}
	want := told{seen: newestStamp}
	for s := newestStamp; ; s-- {
		slot := s % size
		want.slots = append(want.slots, int(slot))
		word := heads[slot]
		stamp := (word - word&1) / 2
		if stamp > s || stamp == s && word&1 == 1 {
			want.start = s
			return want
		}
		if s == 1 || newestStamp-(s-1) == size {
			want.start = s - 1
			return want
		}
	}
}

// tell runs a machine till it is through, and holds each answer and each access against what was to be told.
func tell(t *testing.T, m *mem.Mem, want told) {
	t.Helper()
	_, size := m.Sizes()
	x := made(t, size)
	before := m.Count()
	accesses := 1 + len(want.slots)
	for i := range accesses {
		if start, seen, yes := x.Start(); start != 0 || seen != 0 || yes {
			t.Fatalf("ahead of access %d of %d: Start %d %d %v", i, accesses, start, seen, yes)
		}
		wanted := moved()
		if i == accesses-1 {
			wanted = done()
		}
		if got := x.Step(m, 3+i); got != wanted {
			t.Fatalf("access %d of %d: %+v", i, accesses, got)
		}
		log := m.Log(before + i)
		addr := newest()
		if i > 0 {
			addr = head(want.slots[i-1])
		}
		if len(log) != 1 || log[0].Kind != api.AccLoad || log[0].Addr != addr || log[0].Thread != 3+i {
			t.Fatalf("access %d of %d, to be a load of %+v: %+v", i, accesses, addr, log)
		}
	}
	if start, seen, yes := x.Start(); start != want.start || seen != want.seen || !yes {
		t.Fatalf("Start %d %d %v, not %d %d", start, seen, yes, want.start, want.seen)
	}
	if got := x.Step(m, 3); got != none() || m.Count() != before+accesses {
		t.Fatalf("behind the end: %+v, %d accesses", got, m.Count()-before)
	}
}

// P7.1 to P7.3: the chapter's examples.
func TestExamples(t *testing.T) {
	m, _ := mem.New(1, 4)
	tell(t, m, told{start: 0, seen: 0})
	tell(t, memory(t, 2, 1, 3, 0, 1), told{slots: []int{2, 1}, start: 1, seen: 2})
	tell(t, memory(t, 5, 10), told{slots: []int{0}, start: 4, seen: 5})
}

// P7.1: every size that may be; a new machine is not through, and a memory isn't needed to make it.
func TestNew(t *testing.T) {
	for size := 1; size <= 16; size++ {
		x := made(t, size)
		if start, seen, yes := x.Start(); start != 0 || seen != 0 || yes {
			t.Errorf("size %d: a new machine's Start: %d %d %v", size, start, seen, yes)
		}
		m := memory(t, 0, same(size, 1)...)
		if got := x.Step(m, 0); got != done() {
			t.Errorf("size %d: the first step over an empty ring: %+v", size, got)
		}
	}
}

// P7.1: sizes that no ring has.
func TestNewRefuses(t *testing.T) {
	for _, size := range noSizes() {
		if x, why := begin.New(size); x != nil || why != api.ErrArg {
			t.Errorf("New(%d): %v, error %d", size, x, why)
		}
	}
}

// P7.2, P7.3: every small ring, with every small stamp and head word.
func TestSmallRings(t *testing.T) {
	for size := 1; size <= 3; size++ {
		heads := same(size, -3)
		for {
			for stamp := int64(-2); stamp <= 7; stamp++ {
				tell(t, memory(t, stamp, heads...), expected(stamp, heads...))
			}
			if t.Failed() || !count(heads, -3, 12) {
				break
			}
		}
	}
}

// count makes of digits from low to high the next number; false, behind the last.
func count(digits []int64, low, high int64) bool {
	for i := range digits {
		if digits[i] < high {
			digits[i]++
			return true
		}
		digits[i] = low
	}
	return false
}

// P7.2, P7.3: rings of every size, with stamps of every size, of which the entries above one are raw, laid, or gone.
func TestAllRings(t *testing.T) {
	seed := strewn(1)
	for size := 1; size <= 16; size++ {
		for _, middle := range []int64{20, 1000, 1 << 31, 1 << 32, 1 << 40, 1<<62 - 40} {
			for range 60 {
				stamp := middle - 20 + int64(seed.below(41))
				heads := make([]int64, size)
				for slot := range heads {
					heads[slot] = 2*(stamp-int64(seed.below(3*size))) + int64(seed.below(2))
				}
				tell(t, memory(t, stamp, heads...), expected(stamp, heads...))
			}
		}
	}
}

// P7.2: just the stamp's own done, or a greater stamp, ends the search; where the first of these stands tells START.
func TestEndsWhereOver(t *testing.T) {
	for size := 1; size <= 16; size++ {
		for back := range size {
			const stamp = 100
			for _, over := range []int64{2*(stamp-int64(back)) + 1, 2 * (stamp - int64(back) + int64(size)), math.MaxInt64} {
				heads := same(size, 1)
				heads[(stamp-back)%size] = over
				want := told{start: stamp - int64(back), seen: stamp}
				for i := 0; i <= back; i++ {
					want.slots = append(want.slots, (stamp-i)%size)
				}
				tell(t, memory(t, stamp, heads...), want)
			}
		}
	}
}

// P7.2: below the stamp 1 nothing is looked at: START is 0, whatever the heads say, and SEEN what was seen.
func TestNewestBelowOne(t *testing.T) {
	for _, stamp := range []int64{math.MinInt64, math.MinInt64 + 1, -1 << 62, -1 << 32, -17, -1, 0} {
		for _, word := range []int64{math.MinInt64, -1, 0, 1, math.MaxInt64} {
			tell(t, memory(t, stamp, same(4, word)...), told{start: 0, seen: stamp})
		}
	}
}

// P7.2: with entries that aren't over it ends at 0, or at the stamp that lies a ring's size below the newest one.
func TestNothingOver(t *testing.T) {
	for size := 1; size <= 16; size++ {
		for _, stamp := range []int64{1, 2, 3, 15, 16, 17, 18, 1 << 40, 1 << 62, 1<<62 + 1, math.MaxInt64 - 1, math.MaxInt64} {
			looks := min(stamp, int64(size))
			want := told{start: stamp - looks, seen: stamp}
			for i := range looks {
				want.slots = append(want.slots, int((stamp-i)%int64(size)))
			}
			for _, word := range []int64{0, -1, math.MinInt64} {
				tell(t, memory(t, stamp, same(size, word)...), want)
			}
		}
	}
}

// P7.2: each head word is taken as it stands at its access; the newest stamp as it stood at the first.
func TestOthersWrite(t *testing.T) {
	m := memory(t, 3, 1, 2, 4, 6)
	x := made(t, 4)
	steps := []struct {
		addr api.Addr
		word int64
		want api.Answer
	}{
		{newest(), 3, moved()},
		{newest(), 9, moved()}, // 3 isn't over
		{head(3), 7, moved()},  // now it is, but 2 is looked at
		{head(1), 3, done()},   // 1 is over by now
	}
	for i, s := range steps {
		store(t, m, s.addr, s.word)
		if got := x.Step(m, 1); got != s.want {
			t.Errorf("step %d: %+v", i, got)
		}
	}
	if start, seen, yes := x.Start(); start != 1 || seen != 3 || !yes {
		t.Errorf("Start %d %d %v", start, seen, yes)
	}
}

// P7.2, P7.3: behind its end it makes no access, and tells the same, whatever is written.
func TestThrough(t *testing.T) {
	m := memory(t, 2, 1, 3, 5, 1)
	x := made(t, 4)
	x.Step(m, 0)
	x.Step(m, 0)
	for i := range 20 {
		store(t, m, newest(), int64(i))
		store(t, m, head(i%4), int64(4*i))
		before := m.Count()
		if got := x.Step(m, i); got != none() || m.Count() != before {
			t.Errorf("step %d behind the end: %+v", i, got)
		}
		if start, seen, yes := x.Start(); start != 2 || seen != 2 || !yes {
			t.Errorf("Start behind the end: %d %d %v", start, seen, yes)
		}
	}
}

// P7.2, R1: a nil memory, and one with another number of slots, is none, in every state; and the machine goes on behind that as if nothing had been.
func TestOtherMemories(t *testing.T) {
	for size := 1; size <= 16; size++ {
		m := memory(t, 40, same(size, 0)...)
		x := made(t, size)
		for range size + 3 {
			refuses(t, x, size)
			x.Step(m, 5)
		}
		if start, seen, yes := x.Start(); start != 40-int64(size) || seen != 40 || !yes {
			t.Errorf("size %d: Start %d %d %v", size, start, seen, yes)
		}
	}
}

// refuses: a machine of a size makes nothing of memories of others.
func refuses(t *testing.T, x *begin.Machine, size int) {
	t.Helper()
	start, seen, yes := x.Start()
	if got := x.Step(nil, 5); got != none() {
		t.Errorf("a nil memory: %+v", got)
	}
	for slots := 1; slots <= 16; slots++ {
		if slots == size {
			continue
		}
		other, _ := mem.New(1, slots)
		if got := x.Step(other, 5); got != none() || other.Count() != 0 {
			t.Errorf("size %d over %d slots: %+v, %d accesses", size, slots, got, other.Count())
		}
	}
	if s, n, y := x.Start(); s != start || n != seen || y != yes {
		t.Errorf("Start became %d %d %v", s, n, y)
	}
}

// R1: a nil machine.
func TestNilMachine(t *testing.T) {
	var x *begin.Machine
	m := memory(t, 2, 1, 3, 0, 1)
	before := m.Count()
	if got := x.Step(m, 0); got != none() || m.Count() != before {
		t.Errorf("Step: %+v", got)
	}
	if got := x.Step(nil, 0); got != none() {
		t.Errorf("Step over a nil memory: %+v", got)
	}
	if start, seen, yes := x.Start(); start != 0 || seen != 0 || yes {
		t.Errorf("Start: %d %d %v", start, seen, yes)
	}
}

// P7.2: whatever the thread is, also one that may not be, it is in the access, and nothing else hangs on it.
func TestThreads(t *testing.T) {
	for _, thread := range []int{math.MinInt, -1 << 32, -1, 0, 7, 8, 9, 1 << 32, math.MaxInt} {
		m := memory(t, 2, 1, 3, 0, 1)
		before := m.Count()
		x := made(t, 4)
		for _, want := range []api.Answer{moved(), moved(), done(), none()} {
			if got := x.Step(m, thread); got != want {
				t.Errorf("thread %d: %+v", thread, got)
			}
		}
		want := []api.Access{
			{Thread: thread, Kind: api.AccLoad, Addr: newest(), Value: 2},
			{Thread: thread, Kind: api.AccLoad, Addr: head(2), Value: 0},
			{Thread: thread, Kind: api.AccLoad, Addr: head(1), Value: 3},
		}
		if got := m.Log(before); !slices.Equal(got, want) {
			t.Errorf("thread %d: %+v", thread, got)
		}
	}
}

// R4: of two memories of one size each access is one of that which is handed in.
func TestTwoMemories(t *testing.T) {
	one := memory(t, 6, 0, 0, 0, 0)
	two := memory(t, -1, 1, 11, 1, 1)
	x := made(t, 4)
	for i, s := range []struct {
		m    *mem.Mem
		want api.Answer
	}{{one, moved()}, {two, moved()}, {two, done()}} {
		before := s.m.Count()
		if got := x.Step(s.m, 0); got != s.want || s.m.Count() != before+1 {
			t.Errorf("step %d: %+v", i, got)
		}
	}
	if start, seen, _ := x.Start(); start != 5 || seen != 6 {
		t.Errorf("Start %d %d", start, seen)
	}
}

// R4: machines beside each other, over one memory and over others, do what each does alone.
func TestMachinesApart(t *testing.T) {
	seed := strewn(2)
	for range 300 {
		size := 1 + seed.below(5)
		heads := make([]int64, size)
		for slot := range heads {
			heads[slot] = int64(seed.below(20))
		}
		stamp := int64(seed.below(9))
		m := memory(t, stamp, heads...)
		machines := []*begin.Machine{made(t, size), made(t, size), made(t, size)}
		steps := make([]int, len(machines))
		want := expected(stamp, heads...)
		for range 60 {
			i := seed.below(len(machines))
			steps[i]++
			checkStep(t, machines[i].Step(m, i), steps[i], want)
			checkStart(t, machines, steps, want)
		}
	}
}

// checkStep holds a machine's answer to its step of a number (from 1 on) against what was to be told.
func checkStep(t *testing.T, got api.Answer, step int, want told) {
	t.Helper()
	wanted := none()
	switch last := 1 + len(want.slots); {
	case step < last:
		wanted = moved()
	case step == last:
		wanted = done()
	}
	if got != wanted {
		t.Errorf("step %d: %+v, not %+v", step, got, wanted)
	}
}

// checkStart holds what machines found, behind so many steps each, against what was to be told.
func checkStart(t *testing.T, machines []*begin.Machine, steps []int, want told) {
	t.Helper()
	for i, x := range machines {
		start, seen, yes := x.Start()
		if isThrough := steps[i] > len(want.slots); yes != isThrough || yes && (start != want.start || seen != want.seen) || !yes && (start != 0 || seen != 0) {
			t.Errorf("machine %d behind %d steps: %d %d %v, of %+v", i, steps[i], start, seen, yes, want)
		}
	}
}

// P7.4: whatever others write meanwhile, it is through behind at most size + 1 accesses, and START isn't above SEEN, but below 0.
func TestNeverLong(t *testing.T) {
	seed := strewn(3)
	longest := map[int]int{}
	for round := range 6000 {
		size := 1 + round%16
		m := memory(t, int64(seed.below(60))-4, same(size, 0)...)
		x := made(t, size)
		accesses := 0
		for through := false; !through; {
			scribble(t, m, &seed, size)
			got := x.Step(m, 0)
			accesses++
			through = got == done()
			if !through && got != moved() || accesses > size+1 {
				t.Fatalf("size %d, access %d: %+v", size, accesses, got)
			}
		}
		longest[size] = max(longest[size], accesses)
		start, seen, yes := x.Start()
		if !yes || start < 0 || start > max(seen, 0) || seen-start > int64(size) {
			t.Fatalf("size %d: Start %d %d %v", size, start, seen, yes)
		}
	}
	for size := 1; size <= 16; size++ {
		if longest[size] != size+1 {
			t.Errorf("size %d: at most %d accesses: the bound was not tried", size, longest[size])
		}
	}
}

// scribble writes some words into the ring, mostly such as end nothing.
func scribble(t *testing.T, m *mem.Mem, seed *strewn, size int) {
	t.Helper()
	if seed.below(2) == 0 {
		store(t, m, newest(), int64(seed.below(60))-4)
	}
	word := int64(seed.below(8)) - 4
	if seed.below(30) == 0 {
		word = int64(seed.below(130))
	}
	store(t, m, head(seed.below(size)), word)
}

// orderly are entries that are published, laid and completed in the order of their stamps, as DOC.md tells of them.
type orderly struct {
	m                         *mem.Mem
	size                      int64
	published, laid, complete int64
}

// slot is the address of a stamp's head word.
func (o *orderly) slot(stamp int64) api.Addr { return head(int(stamp % o.size)) }

// step does one of the three, if it may be.
func (o *orderly) step(t *testing.T, which int) {
	t.Helper()
	switch {
	case which == 0 && o.published-o.complete < o.size:
		o.published++
		store(t, o.m, newest(), o.published)
	case which == 1 && o.laid < o.published:
		o.laid++
		store(t, o.m, o.slot(o.laid), 2*o.laid)
	case which == 2 && o.complete < o.laid:
		o.complete++
		store(t, o.m, o.slot(o.complete), 2*o.complete+1)
	}
}

// P7.4: of entries that get complete in their order all up to START are complete; and START is no less than what was complete at the first access.
func TestUpToStartComplete(t *testing.T) {
	seed := strewn(4)
	between := 0
	for round := range 4000 {
		size := 1 + round%16
		m := memory(t, 0, same(size, 1)...)
		o := &orderly{m: m, size: int64(size)}
		for range seed.below(200) {
			o.step(t, seed.below(3))
		}
		atFirst := o.complete
		x := made(t, size)
		for i := 0; i < 20 && x.Step(m, 0) == moved(); i++ {
			for range seed.below(6) {
				o.step(t, seed.below(3))
			}
		}
		start, seen, yes := x.Start()
		if !yes || start > o.complete || start < atFirst || start > seen {
			t.Fatalf("size %d: Start %d %d %v, with %d complete at first and %d in the end", size, start, seen, yes, atFirst, o.complete)
		}
		if start > atFirst && start < o.complete {
			between++
		}
	}
	if between == 0 {
		t.Error("nothing got complete meanwhile")
	}
}

// P7.4: over a ring that stands still START is what is complete there.
func TestAgreesWithTheRing(t *testing.T) {
	seed := strewn(5)
	for round := range 2000 {
		size := 1 + round%16
		m := memory(t, 0, same(size, 1)...)
		o := &orderly{m: m, size: int64(size)}
		for range seed.below(200) {
			o.step(t, seed.below(3))
		}
		x := made(t, size)
		for range size + 1 {
			x.Step(m, 0)
		}
		if start, seen, _ := x.Start(); start != ring.Complete(m) || seen != ring.Newest(m) {
			t.Fatalf("size %d: Start %d %d; the ring: %d %d", size, start, seen, ring.Complete(m), ring.Newest(m))
		}
	}
}

// R4: the same calls get the same answers.
func TestSameAgain(t *testing.T) {
	run := func() string {
		seed := strewn(6)
		said := ""
		for range 50 {
			size := 1 + seed.below(16)
			m := memory(t, int64(seed.below(40)), same(size, 0)...)
			x := made(t, size)
			for range size + 2 {
				scribble(t, m, &seed, size)
				said += fmt.Sprint(x.Step(m, seed.below(9)))
			}
			start, seen, yes := x.Start()
			said += fmt.Sprint(start, seen, yes, m.Log(0))
		}
		return said
	}
	if run() != run() {
		t.Error("two runs differ")
	}
}
