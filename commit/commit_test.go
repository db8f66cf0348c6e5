package commit_test

import (
	"fmt"
	"math"
	"slices"
	"testing"

	"carousel/api"
	"carousel/check"
	"carousel/commit"
	"carousel/mem"
	"carousel/ring"
	"carousel/sig"
)

func newest() api.Addr                { return api.Addr{Kind: api.AddrNewest} }
func head(slot int) api.Addr          { return api.Addr{Kind: api.AddrHead, I: slot} }
func sigWord(slot, word int) api.Addr { return api.Addr{Kind: api.AddrSig, I: slot, J: word} }

// The answers that a step has.
func none() api.Answer        { return api.Answer{} }
func waits() api.Answer       { return api.Answer{Kind: api.AnsWait, Access: true} }
func moved() api.Answer       { return api.Answer{Kind: api.AnsMoved, Access: true} }
func done(v int64) api.Answer { return api.Answer{Kind: api.AnsDone, Value: v, Access: true} }
func conflict() api.Answer    { return failed(api.ErrConflict) }
func overrun() api.Answer     { return failed(api.ErrOverrun) }
func spent() api.Answer       { return failed(api.ErrStampsSpent) }
func failed(why api.Errno) api.Answer {
	return api.Answer{Kind: api.AnsFailed, Err: why, Access: true}
}

// given is what a machine is made of.
type given struct {
	size   int
	stamps int64
	multi  bool
	start  int64
	reads  api.Sig
}

// config is what New is handed of it.
func (g given) config() api.Config {
	return api.Config{Ring: g.size, Stamps: g.stamps, Multi: g.multi}
}

// made is a machine that must be there.
func made(t *testing.T, g given) *commit.Machine {
	t.Helper()
	x, why := commit.New(g.config(), g.start, g.reads)
	if x == nil || why != api.OK {
		t.Fatalf("New of %+v: %v, error %d", g, x, why)
	}
	return x
}

// memory is one with a newest stamp, and a head word for each of its slots.
func memory(t *testing.T, newestStamp int64, heads ...int64) *mem.Mem {
	t.Helper()
	m, why := mem.New(4, len(heads))
	if m == nil || why != api.OK {
		t.Fatalf("a memory of %d slots: error %d", len(heads), why)
	}
	store(t, m, newest(), newestStamp)
	for slot, word := range heads {
		store(t, m, head(slot), word)
	}
	return m
}

// store puts a word where it must be possible.
func store(t *testing.T, m *mem.Mem, a api.Addr, v int64) {
	t.Helper()
	if why := m.Store(99, a, v); why != api.OK {
		t.Fatalf("Store to %+v: error %d", a, why)
	}
}

// lay puts a signature into a slot.
func lay(t *testing.T, m *mem.Mem, slot int, s api.Sig) {
	t.Helper()
	for j, word := range s {
		store(t, m, sigWord(slot, j), int64(word))
	}
}

// laid are the head words of a ring in which all stamps above start, up to start and size, are laid; those below a stamp are done, too.
func laid(size int, start, doneBelow int64) []int64 {
	heads := make([]int64, size)
	for i := range int64(size) {
		s := start + 1 + i
		heads[s%int64(size)] = 2 * s
		if s < doneBelow {
			heads[s%int64(size)]++
		}
	}
	return heads
}

// full is the signature that has all bits.
func full() api.Sig {
	var s api.Sig
	for j := range s {
		s[j] = math.MaxUint64
	}
	return s
}

// strewn gives numbers that are spread out, the same ones each time.
type strewn uint64

func (s *strewn) below(n int) int {
	*s = *s*6364136223846793005 + 1442695040888963407
	return int(uint64(*s>>33) % uint64(n))
}

// someReads are signatures of all kinds: of no bit, of few, of all.
func (s *strewn) someReads() api.Sig {
	switch s.below(6) {
	case 0, 1:
		return api.Sig{}
	case 2:
		return full()
	}
	return sig.Of(s.below(50), s.below(50))
}

// Numbers that no ring has as its size, no limit of stamps is, no start stamp is.
func noSizes() []int {
	return []int{math.MinInt, math.MinInt32, -1 << 32, -16, -2, -1, 0, 17, 18, 32, 256, 257, 1 << 32, 1<<32 + 1, 1<<32 + 16, math.MaxInt32, math.MaxInt}
}

func noLimits() []int64 {
	return []int64{math.MinInt64, -1 << 40, -1 << 32, -2, -1, 0, 1<<40 + 1, 1<<40 + 2, 1 << 41, 1 << 62, math.MaxInt64}
}

func noStarts() []int64 {
	return []int64{-1, -2, -16, -17, math.MinInt32, -1 << 32, -1 << 62, math.MinInt64 + 1, math.MinInt64}
}

// someLimits are numbers of stamps that may be.
func someLimits() []int64 {
	return []int64{1, 2, 3, 16, 17, 1 << 31, 1 << 32, 1<<40 - 1, 1 << 40}
}

// A step: the access that it makes, but for its thread, and its answer.
type step struct {
	access api.Access
	answer api.Answer
}

func loads(a api.Addr, v int64, answer api.Answer) step {
	return step{api.Access{Kind: api.AccLoad, Addr: a, Value: v}, answer}
}

// swaps is the Swap to a stamp, by which it is published, or isn't.
func swaps(stamp int64, yes bool) step {
	answer := moved()
	if yes {
		answer = done(stamp)
	}
	return step{api.Access{Kind: api.AccSwap, Addr: newest(), Old: stamp - 1, Value: stamp, Yes: yes}, answer}
}

// tells: over a memory a machine's next steps are these.
func tells(t *testing.T, x *commit.Machine, m *mem.Mem, steps ...step) {
	t.Helper()
	for i, want := range steps {
		before := m.Count()
		got := x.Step(m, 3+i)
		want.access.Thread = 3 + i
		if log := m.Log(before); got != want.answer || !slices.Equal(log, []api.Access{want.access}) {
			t.Fatalf("step %d: %+v by %+v, not %+v by %+v", i, got, log, want.answer, want.access)
		}
	}
}

// published: Stamp tells that.
func published(t *testing.T, x *commit.Machine, want int64) {
	t.Helper()
	if stamp, yes := x.Stamp(); stamp != want || yes != (want != 0) {
		t.Errorf("Stamp %d %v, not %d", stamp, yes, want)
	}
}

// P10.1 to P10.3: the chapter's first example: over a new memory.
func TestExampleNewMemory(t *testing.T) {
	m, _ := mem.New(1, 4)
	x := made(t, given{4, 9, false, 0, sig.Of()})
	published(t, x, 0)
	tells(t, x, m, loads(newest(), 0, moved()))
	published(t, x, 0)
	tells(t, x, m, swaps(1, true))
	published(t, x, 1)
	m, _ = mem.New(1, 4)
	x = made(t, given{4, 9, true, 0, sig.Of()})
	tells(t, x, m, loads(newest(), 0, moved()), loads(head(1), 1, moved()))
	published(t, x, 0)
	tells(t, x, m, swaps(1, true))
	published(t, x, 1)
}

// P10.2: the chapter's second example: another one is faster, and it waits for that.
func TestExampleOtherFaster(t *testing.T) {
	for _, over := range []int64{3, 4, 5, 10} {
		m, _ := mem.New(1, 4)
		x := made(t, given{4, 9, false, 0, sig.Of()})
		tells(t, x, m, loads(newest(), 0, moved()))
		store(t, m, newest(), 1)
		tells(t, x, m, swaps(1, false), loads(newest(), 1, moved()), loads(head(1), 1, waits()), loads(head(1), 1, waits()))
		store(t, m, head(1), 2)
		tells(t, x, m, loads(head(1), 2, waits()), loads(head(1), 2, waits()))
		published(t, x, 0)
		store(t, m, head(1), over)
		tells(t, x, m, loads(head(1), over, moved()), swaps(2, true))
		published(t, x, 2)
	}
}

// P10.2, P10.3: the chapter's third example: there is no stamp left.
func TestExampleSpent(t *testing.T) {
	for _, multi := range []bool{false, true} {
		m := memory(t, 1, 1, 3, 1, 1)
		x := made(t, given{4, 1, multi, 0, sig.Of()})
		tells(t, x, m, loads(newest(), 1, spent()))
		published(t, x, 0)
		if got := x.Step(m, 0); got != none() {
			t.Errorf("behind that: %+v", got)
		}
	}
}

// P10.2: the chapter's fourth example: an entry is laid over the one that it looks at; the next round is from the same start stamp.
func TestExampleGone(t *testing.T) {
	m := memory(t, 3, 6)
	lay(t, m, 0, sig.Of(0))
	x := made(t, given{1, 9, false, 2, sig.Of(0)})
	word := sig.Bits(sig.Of(0))[0] / 64
	tells(t, x, m, loads(newest(), 3, moved()))
	store(t, m, head(0), 7)
	tells(t, x, m, loads(head(0), 7, moved()))
	store(t, m, newest(), 4)
	others := sig.Of(4)
	lay(t, m, 0, others)
	store(t, m, head(0), 8)
	tells(t, x, m, loads(sigWord(0, word), int64(others[word]), moved()), loads(head(0), 8, moved()), swaps(4, false), loads(newest(), 4, overrun()))
	published(t, x, 0)
}

// P10.2: the chapter's fifth example: the slot isn't free.
func TestExampleSlotTaken(t *testing.T) {
	m := memory(t, 4, 9, 2, 5, 7)
	x := made(t, given{4, 9, true, 4, sig.Of(1)})
	tells(t, x, m, loads(newest(), 4, moved()), loads(head(1), 2, waits()), loads(head(1), 2, waits()))
	store(t, m, head(1), 3)
	tells(t, x, m, loads(head(1), 3, moved()), swaps(5, true))
	published(t, x, 5)
}

// P10.1: every size, limits and starts of every size: a new machine made no access, and published nothing; its first access is the round's.
func TestNew(t *testing.T) {
	for size := 1; size <= 16; size++ {
		for _, limit := range someLimits() {
			for _, start := range []int64{0, 1, 2, 16, 17, 1 << 32, 1 << 40, 1<<40 + 1, 1 << 62, math.MaxInt64} {
				for _, multi := range []bool{false, true} {
					x := made(t, given{size, limit, multi, start, full()})
					published(t, x, 0)
					m := memory(t, 0, make([]int64, size)...)
					tells(t, x, m, loads(newest(), 0, moved()))
				}
			}
		}
	}
}

// P10.1: sizes that no ring has, limits of stamps that there are not, and starts below 0, alone and together.
func TestNewRefuses(t *testing.T) {
	refused := func(size int, limit, start int64) {
		for _, multi := range []bool{false, true} {
			c := api.Config{Raw: 4, Ring: size, Writes: 3, Stamps: limit, Multi: multi, Tries: 5}
			for _, reads := range []api.Sig{{}, sig.Of(1), full()} {
				if x, why := commit.New(c, start, reads); x != nil || why != api.ErrArg {
					t.Errorf("New of %+v, %d: %v, error %d", c, start, x, why)
				}
			}
		}
	}
	limits, starts := append(someLimits(), noLimits()...), append([]int64{0, 1, math.MaxInt64}, noStarts()...)
	for _, size := range noSizes() {
		for _, limit := range limits {
			for _, start := range starts {
				refused(size, limit, start)
			}
		}
	}
	for size := 1; size <= 16; size++ {
		for _, limit := range noLimits() {
			for _, start := range starts {
				refused(size, limit, start)
			}
		}
		for _, limit := range someLimits() {
			for _, start := range noStarts() {
				refused(size, limit, start)
			}
		}
	}
}

// P10.1: nothing else of a configuration is looked at, whatever it is.
func TestNewOtherFields(t *testing.T) {
	for _, odd := range []int{math.MinInt, -1, 0, 1, 25, 65, 256, math.MaxInt} {
		for _, regions := range [][]api.Region{nil, {{}}, make([]api.Region, 99)} {
			for _, multi := range []bool{false, true} {
				c := api.Config{Raw: odd, Ring: 2, Writes: odd, Stamps: 3, Multi: multi, Tries: odd, Regions: regions}
				x, why := commit.New(c, 0, sig.Of())
				if x == nil || why != api.OK {
					t.Fatalf("New of %+v: error %d", c, why)
				}
				steps := []step{loads(newest(), 0, moved()), loads(head(1), 1, moved()), swaps(1, true)}
				if !multi {
					steps = slices.Delete(steps, 1, 2)
				}
				tells(t, x, memory(t, 0, 1, 1), steps...)
			}
		}
	}
}

// P10.2: a stamp must be left behind the one that was seen: by one more or less, for limits of every size; and below 0 there is none.
func TestSpent(t *testing.T) {
	for _, multi := range []bool{false, true} {
		for _, limit := range someLimits() {
			for _, stamp := range []int64{math.MinInt64, math.MinInt64 + 1, -1 << 40, -2, -1, 0, 1, limit - 2, limit - 1, limit, limit + 1, 2*limit - 1, 1 << 62, math.MaxInt64} {
				want := moved()
				if stamp < 0 || stamp >= limit {
					want = spent()
				}
				m := memory(t, stamp, make([]int64, 16)...)
				x := made(t, given{16, limit, multi, 0, sig.Of()})
				tells(t, x, m, loads(newest(), stamp, want))
				published(t, x, 0)
				if got := x.Step(m, 0); (got == none()) != (want == spent()) {
					t.Errorf("limit %d, newest %d: %+v, then %+v", limit, stamp, want, got)
				}
			}
		}
	}
}

// P10.2: the limit is held against what was seen when the round is through, behind all that it looks at: a conflict and an overrun come ahead of it.
func TestSpentBehindRound(t *testing.T) {
	for _, multi := range []bool{false, true} {
		g := given{2, 2, multi, 1, sig.Of(0)}
		m := memory(t, 3, 4, 6)
		tells(t, made(t, g), m, loads(newest(), 3, moved()), loads(head(0), 4, moved()), loads(sigWord(0, 0), 0, moved()), loads(head(1), 6, moved()), loads(sigWord(1, 0), 0, spent()))
		store(t, m, sigWord(1, 0), 1)
		tells(t, made(t, g), m, loads(newest(), 3, moved()), loads(head(0), 4, moved()), loads(sigWord(0, 0), 0, moved()), loads(head(1), 6, moved()), loads(sigWord(1, 0), 1, conflict()))
		store(t, m, newest(), 4)
		tells(t, made(t, g), m, loads(newest(), 4, overrun()))
		// With nothing read there is no overrun, and no conflict: the stamps alone are spent.
		g.reads = api.Sig{}
		tells(t, made(t, g), m, loads(newest(), 4, spent()))
	}
}

// P10.2: without Multi it looks at the head of N's slot till N is over by that, for every size and stamps of every size.
func TestLooksAtLast(t *testing.T) {
	for size := 1; size <= 16; size++ {
		for _, stamp := range []int64{1, 2, 15, 16, 17, 1000, 1 << 31, 1 << 32, 1<<40 - 1} {
			slot := int(stamp % int64(size))
			m := memory(t, stamp, make([]int64, size)...)
			x := made(t, given{size, 1 << 40, false, stamp, full()})
			tells(t, x, m, loads(newest(), stamp, moved()))
			for _, word := range []int64{math.MinInt64, -1, 0, 1, 2*stamp - 2, 2*stamp - 1, 2 * stamp} {
				store(t, m, head(slot), word)
				tells(t, x, m, loads(head(slot), word, waits()))
			}
			for _, word := range []int64{2*stamp + 1, 2*stamp + 2, 2*stamp + 3, math.MaxInt64} {
				store(t, m, newest(), stamp)
				store(t, m, head(slot), word)
				over := made(t, given{size, 1 << 40, false, stamp, full()})
				tells(t, over, m, loads(newest(), stamp, moved()), loads(head(slot), word, moved()), swaps(stamp+1, true))
			}
			store(t, m, newest(), stamp)
			tells(t, x, m, loads(head(slot), math.MaxInt64, moved()), swaps(stamp+1, true))
			published(t, x, stamp+1)
		}
	}
}

// P10.2: without Multi it doesn't look where there is no entry yet, whatever stands in the ring.
func TestNoLookAtZero(t *testing.T) {
	for size := 1; size <= 16; size++ {
		for _, word := range []int64{math.MinInt64, -1, 0, 1, 2, 3, math.MaxInt64} {
			for _, start := range []int64{0, 1, 1 << 40, math.MaxInt64} {
				heads := make([]int64, size)
				for slot := range heads {
					heads[slot] = word
				}
				m := memory(t, 0, heads...)
				x := made(t, given{size, 1, false, start, full()})
				tells(t, x, m, loads(newest(), 0, moved()), swaps(1, true))
				published(t, x, 1)
			}
		}
	}
}

// P10.2: with Multi it looks at the head of the slot of N + 1, till the entry that stood there is over, also where there is no entry yet.
func TestLooksAtNext(t *testing.T) {
	for size := 1; size <= 16; size++ {
		for _, stamp := range []int64{0, 1, 2, 14, 15, 16, 17, 1000, 1 << 31, 1 << 32, 1<<40 - 1} {
			next := stamp + 1
			slot, stood := int(next%int64(size)), next-int64(size)
			g := given{size, 1 << 40, true, stamp, full()}
			for _, word := range []int64{math.MinInt64, -1, 0, 1, 2 * stood, 2*stood - 1, 2*stood - 2, 2*stood + 1, 2*stood + 2, 2 * next, math.MaxInt64} {
				m := memory(t, stamp, make([]int64, size)...)
				store(t, m, head(slot), word)
				x := made(t, g)
				tells(t, x, m, loads(newest(), stamp, moved()))
				if stood < 1 || word > 2*stood {
					tells(t, x, m, loads(head(slot), word, moved()), swaps(next, true))
					published(t, x, next)
					continue
				}
				tells(t, x, m, loads(head(slot), word, waits()), loads(head(slot), word, waits()))
				published(t, x, 0)
				store(t, m, head(slot), 2*stood+1)
				tells(t, x, m, loads(head(slot), 2*stood+1, moved()), swaps(next, true))
				published(t, x, next)
			}
		}
	}
}

// P10.2: with Multi others may be under way, up to as many as there are slots; without it none may.
func TestOthersUnderWay(t *testing.T) {
	for size := 1; size <= 16; size++ {
		for under := range size + 1 {
			// The entries 1 to under are published, and no one is laid.
			m := memory(t, int64(under), slices.Repeat([]int64{1}, size)...)
			for multi, room := range map[bool]int{false: 1, true: size} {
				want := api.AnsDone
				if under >= room {
					want = api.AnsWait
				}
				store(t, m, newest(), int64(under))
				x := made(t, given{size, 99, multi, int64(under), full()})
				var last api.Answer
				for range 6 {
					if a := x.Step(m, 0); a != none() {
						last = a
					}
				}
				if last.Kind != want {
					t.Errorf("size %d, multi %v, %d under way: %+v", size, multi, under, last)
				}
			}
		}
	}
}

// P10.2: the Swap is from N, whatever the newest stamp is then: any other one begins a new round.
func TestSwapFails(t *testing.T) {
	for _, multi := range []bool{false, true} {
		for _, other := range []int64{math.MinInt64, -1, 0, 4, 6, 7, 1 << 40, math.MaxInt64} {
			m := memory(t, 5, 9, 11, 5, 7)
			x := made(t, given{4, 1 << 40, multi, 5, sig.Of()})
			at, word := head(1), int64(11)
			if multi {
				at, word = head(2), 5
			}
			tells(t, x, m, loads(newest(), 5, moved()), loads(at, word, moved()))
			store(t, m, newest(), other)
			tells(t, x, m, swaps(6, false))
			published(t, x, 0)
			if now, _ := m.Peek(newest()); now != other {
				t.Errorf("%d became %d", other, now)
			}
			store(t, m, newest(), 5)
			tells(t, x, m, loads(newest(), 5, moved()), loads(at, word, moved()), swaps(6, true))
			published(t, x, 6)
		}
	}
}

// P10.2: as often as others are faster it begins anew, from the start stamp: all entries above that are held against the reads in each round.
func TestRounds(t *testing.T) {
	const size, start = 8, 3
	reads := sig.Of(0)
	for _, multi := range []bool{false, true} {
		m := memory(t, start, laid(size, start, 99)...)
		x := made(t, given{size, 99, multi, start, reads})
		for n := int64(start); n < start+size; n++ {
			tells(t, x, m, loads(newest(), n, moved()))
			for s := int64(start + 1); s <= n; s++ {
				slot := int(s % size)
				tells(t, x, m, loads(head(slot), 2*s+1, moved()), loads(sigWord(slot, 0), 0, moved()))
			}
			seen := n
			if multi {
				seen++
			}
			word, _ := m.Peek(head(int(seen % size)))
			tells(t, x, m, loads(head(int(seen%size)), word, moved()))
			store(t, m, newest(), n+1)
			tells(t, x, m, swaps(n+1, false))
		}
		published(t, x, 0)
		// One more, and the first one above the start has no room any more.
		store(t, m, newest(), start+size+1)
		tells(t, x, m, loads(newest(), start+size+1, overrun()))
		published(t, x, 0)
	}
}

// P10.2: what was laid only behind the first round is a conflict in the next one, also at a stamp that the first round held already.
func TestLaterRoundConflicts(t *testing.T) {
	for _, multi := range []bool{false, true} {
		m := memory(t, 1, 1, 3, 1, 1)
		x := made(t, given{4, 99, multi, 0, sig.Of(0)})
		tells(t, x, m, loads(newest(), 1, moved()), loads(head(1), 3, moved()), loads(sigWord(1, 0), 0, moved()))
		if multi {
			tells(t, x, m, loads(head(2), 1, moved()))
		} else {
			tells(t, x, m, loads(head(1), 3, moved()))
		}
		store(t, m, newest(), 2)
		store(t, m, sigWord(1, 0), 1)
		tells(t, x, m, swaps(2, false), loads(newest(), 2, moved()), loads(head(1), 3, moved()), loads(sigWord(1, 0), 1, conflict()))
		published(t, x, 0)
	}
}

// P10.2: in a round it waits for an entry that isn't laid, unlike for one that isn't complete.
func TestRoundWaits(t *testing.T) {
	for _, multi := range []bool{false, true} {
		m := memory(t, 1, 1, 1, 1, 1)
		x := made(t, given{4, 99, multi, 0, sig.Of(0)})
		tells(t, x, m, loads(newest(), 1, moved()), loads(head(1), 1, waits()), loads(head(1), 1, waits()))
		store(t, m, head(1), 2)
		tells(t, x, m, loads(head(1), 2, moved()), loads(sigWord(1, 0), 0, moved()))
		if multi {
			tells(t, x, m, loads(head(2), 1, moved()), swaps(2, true))
			continue
		}
		tells(t, x, m, loads(head(1), 2, waits()))
		store(t, m, head(1), 3)
		tells(t, x, m, loads(head(1), 3, moved()), swaps(2, true))
	}
}

// P10.2: there is no last look at the newest stamp in a round: the Swap finds out.
func TestNoLastLook(t *testing.T) {
	m := memory(t, 1, 3)
	x := made(t, given{1, 99, true, 0, sig.Of(0)})
	tells(t, x, m, loads(newest(), 1, moved()), loads(head(0), 3, moved()))
	store(t, m, newest(), 77)
	tells(t, x, m, loads(sigWord(0, 0), 0, moved()), loads(head(0), 3, moved()), swaps(2, false), loads(newest(), 77, overrun()))
}

// twins are two memories that hold the same words.
type twins struct{ m, like *mem.Mem }

// both makes two memories of the same words.
func both(t *testing.T, newestStamp int64, heads ...int64) twins {
	t.Helper()
	return twins{memory(t, newestStamp, heads...), memory(t, newestStamp, heads...)}
}

// put stores into both.
func (w twins) put(t *testing.T, a api.Addr, v int64) {
	t.Helper()
	store(t, w.m, a, v)
	store(t, w.like, a, v)
}

// told does what the chapter tells, in its words, with a machine of chapter 8 for each round.
type told struct {
	given
	round  *check.Machine // nil: it isn't in one
	looked bool
	n      int64
	over   bool
	stamp  int64
}

// step is one of them.
func (x *told) step(m *mem.Mem, thread int) api.Answer {
	switch {
	case x.over:
		return none()
	case x.round != nil:
		return x.inRound(m, thread)
	case !x.looked && (x.multi || x.n != 0):
		return x.look(m, thread)
	}
	if yes, _ := m.Swap(thread, newest(), x.n, x.n+1); yes {
		x.over, x.stamp = true, x.n+1
		return done(x.n + 1)
	}
	x.newRound()
	return moved()
}

func (x *told) newRound() {
	x.round, _ = check.New(x.size, x.start, x.reads, false)
	x.looked = false
}

func (x *told) inRound(m *mem.Mem, thread int) api.Answer {
	answer := x.round.Step(m, thread)
	if answer.Kind == api.AnsFailed {
		x.over = true
	}
	if answer.Kind != api.AnsDone {
		return answer
	}
	_, x.n, _ = x.round.Start()
	x.round = nil
	if x.n < 0 || x.n > x.stamps-1 {
		x.over = true
		return spent()
	}
	return moved()
}

func (x *told) look(m *mem.Mem, thread int) api.Answer {
	at, stood := x.n, x.n
	if x.multi {
		at, stood = x.n+1, x.n+1-int64(x.size)
	}
	word, _ := m.Load(thread, head(int(at%int64(x.size))))
	if stood >= 1 && word < 2*stood+1 {
		return waits()
	}
	x.looked = true
	return moved()
}

// agrees: a machine does over a memory what is told over one of the same words, till both are through, or so many steps are made, ahead of each of which something may be written; it answers the last answer, and how many Swaps were made.
func agrees(t *testing.T, g given, w twins, steps int, meanwhile func()) (api.Answer, int) {
	t.Helper()
	x, like := made(t, g), &told{given: g}
	like.newRound()
	last, tried := none(), 0
	for i := range steps {
		published(t, x, like.stamp)
		meanwhile()
		before, beforeLike := w.m.Count(), w.like.Count()
		want := like.step(w.like, 4+i)
		got := x.Step(w.m, 4+i)
		log := w.m.Log(before)
		if got != want || !slices.Equal(log, w.like.Log(beforeLike)) || len(log) > 1 || got.Access != (len(log) == 1) {
			t.Fatalf("%+v: step %d: %+v by %+v, not %+v by %+v", g, i, got, log, want, w.like.Log(beforeLike))
		}
		if got == none() {
			break
		}
		if log[0].Kind == api.AccSwap {
			tried++
		}
		last = got
	}
	published(t, x, like.stamp)
	return last, tried
}

// P10.2, P10.3: rings of every size, with stamps of every size, mostly laid, some of them done, some of another stamp, whose signatures have few bits.
func TestAllRings(t *testing.T) {
	seed := strewn(1)
	kinds := map[api.Answer]int{}
	for size := 1; size <= 16; size++ {
		for _, middle := range []int64{0, 3, 1000, 1 << 31, 1 << 32, 1<<40 - 40, 1<<62 - 100} {
			for range 80 {
				g := given{size, middle + 1 + int64(seed.below(60)), seed.below(2) == 0, middle + int64(seed.below(20)), seed.someReads()}
				g.stamps = min(g.stamps, 1<<40)
				stamp := g.start + int64(seed.below(size+2))
				w := both(t, stamp, laid(size, g.start, g.start+int64(seed.below(20)))...)
				if seed.below(2) == 0 {
					w.put(t, sigWord(seed.below(size), seed.below(8)), 1<<seed.below(64))
				}
				if seed.below(4) == 0 {
					w.put(t, head(seed.below(size)), 2*(g.start+int64(seed.below(40))-20))
				}
				last, _ := agrees(t, g, w, 6+9*size, func() {})
				last.Value = 0
				kinds[last]++
			}
		}
	}
	for _, answer := range []api.Answer{done(0), conflict(), overrun(), spent(), waits()} {
		if kinds[answer] < 100 {
			t.Errorf("just %d ended with %+v", kinds[answer], answer)
		}
	}
}

// P10.2, P10.3: whatever others write meanwhile it does what its chapter tells, in as many rounds as it takes.
func TestOthersWrite(t *testing.T) {
	seed := strewn(3)
	kinds := map[api.Answer]int{}
	again := 0
	for round := range 6000 {
		size := 1 + round%16
		g := given{size, int64(1 + seed.below(30)), seed.below(2) == 0, int64(seed.below(6)), seed.someReads()}
		w := both(t, g.start+int64(seed.below(size+1)), laid(size, g.start, g.start+3)...)
		haste := 2 + seed.below(6)
		last, tried := agrees(t, g, w, 300, func() {
			if seed.below(haste) == 0 {
				a, v := scribble(&seed, g)
				w.put(t, a, v)
			}
		})
		if tried > 1 {
			again++
		}
		last.Value = 0
		kinds[last]++
	}
	for _, answer := range []api.Answer{done(0), conflict(), overrun(), spent()} {
		if kinds[answer] < 100 {
			t.Errorf("just %d ended with %+v", kinds[answer], answer)
		}
	}
	if again < 100 {
		t.Errorf("just %d swapped more than once", again)
	}
}

// scribble is a word to be written, mostly such as an entry has.
func scribble(seed *strewn, g given) (api.Addr, int64) {
	s := g.start + 1 + int64(seed.below(g.size))
	slot := int(s % int64(g.size))
	switch seed.below(10) {
	case 0, 1, 2:
		return newest(), g.start + int64(seed.below(g.size+3)) - 1
	case 3:
		return sigWord(slot, seed.below(8)), 1 << seed.below(64)
	case 4:
		return head(slot), 2*s - int64(seed.below(5))
	case 5:
		return head(slot), 2 * (s + int64(seed.below(2)*g.size))
	}
	return head(slot), 2*s + int64(seed.below(2))
}

// P10.2, P10.3: behind its end, by which answer ever, it makes no access, and tells the same, whatever is written.
func TestThrough(t *testing.T) {
	for _, multi := range []bool{false, true} {
		for name, c := range map[string]struct {
			newest, head, word int64
			want               api.Answer
		}{
			"done":     {1, 3, 0, done(2)},
			"overrun":  {9, 3, 0, overrun()},
			"gone":     {1, 11, 0, overrun()},
			"conflict": {1, 3, 1, conflict()},
			"spent":    {5, 3, 0, spent()},
		} {
			g := given{4, 5, multi, 0, sig.Of(0)}
			if c.want == spent() {
				g.start = 5
			}
			m := memory(t, c.newest, 1, c.head, 1, 1)
			store(t, m, sigWord(1, 0), c.word)
			x := made(t, g)
			last := none()
			for range 9 {
				if a := x.Step(m, 0); a != none() {
					last = a
				}
			}
			if last != c.want {
				t.Errorf("%s: %+v", name, last)
			}
			for i := range 20 {
				store(t, m, newest(), int64(i%4))
				store(t, m, head(i%4), int64(4*i))
				before := m.Count()
				if got := x.Step(m, i); got != none() || m.Count() != before {
					t.Errorf("%s: step %d behind the end: %+v", name, i, got)
				}
				published(t, x, c.want.Value)
			}
		}
	}
}

// P10.2, R1: a nil memory and one with another number of slots is none, in every state; and the machine goes on behind that as if nothing had been.
func TestOtherMemories(t *testing.T) {
	for size := 1; size <= 16; size++ {
		for _, multi := range []bool{false, true} {
			s := int64(size)
			m := memory(t, 40+s, laid(size, 40, 99)...)
			x := made(t, given{size, 99, multi, 40, full()})
			last := none()
			for i := range 6 + 9*size {
				if i < 30 || i > 9*size-2 {
					refuses(t, x, size)
				}
				if a := x.Step(m, 5); a != none() {
					last = a
				}
			}
			if last != done(41+s) {
				t.Errorf("size %d, multi %v: %+v", size, multi, last)
			}
			published(t, x, 41+s)
		}
	}
}

// P10.2, R1: also a machine that waits, in a round or behind one, or has failed, makes nothing of another memory.
func TestOtherMemoriesWaitingAndFailed(t *testing.T) {
	for _, c := range []struct {
		g      given
		newest int64
		want   api.Answer
	}{
		{given{4, 9, false, 0, sig.Of(0)}, 1, waits()},
		{given{4, 9, false, 1, sig.Of(0)}, 1, waits()},
		{given{4, 9, true, 8, sig.Of(0)}, 8, waits()},
		{given{4, 9, true, 0, sig.Of(0)}, 8, none()},
		{given{4, 9, true, 9, sig.Of(0)}, 9, none()},
	} {
		m := memory(t, c.newest, 1, 1, 1, 1)
		x := made(t, c.g)
		for range 6 {
			refuses(t, x, 4)
			x.Step(m, 5)
		}
		if got := x.Step(m, 5); got != c.want {
			t.Errorf("%+v: %+v, not %+v", c.g, got, c.want)
		}
	}
}

// refuses: a machine makes nothing of memories that aren't its own kind's.
func refuses(t *testing.T, x *commit.Machine, size int) {
	t.Helper()
	stamp, _ := x.Stamp()
	if got := x.Step(nil, 5); got != none() {
		t.Errorf("a nil memory: %+v", got)
	}
	for slots := 1; slots <= 16; slots++ {
		if slots == size {
			continue
		}
		other, _ := mem.New(1, slots)
		if got := x.Step(other, 5); got != none() || other.Count() != 0 {
			t.Errorf("%d slots instead of %d: %+v, %d accesses", slots, size, got, other.Count())
		}
	}
	published(t, x, stamp)
}

// R1: a nil machine, and one that New didn't make.
func TestNoMachine(t *testing.T) {
	for _, x := range []*commit.Machine{nil, new(commit.Machine)} {
		m := memory(t, 2, 1, 3, 0, 1)
		before := m.Count()
		if got := x.Step(m, 0); got != none() || m.Count() != before {
			t.Errorf("Step: %+v", got)
		}
		for _, nothing := range []*mem.Mem{nil, new(mem.Mem)} {
			if got := x.Step(nothing, 0); got != none() {
				t.Errorf("Step over no memory: %+v", got)
			}
		}
		published(t, x, 0)
	}
}

// P10.2: whatever the thread is, also one that may not be, it is in the access, and nothing else hangs on it.
func TestThreads(t *testing.T) {
	for _, thread := range []int{math.MinInt, -1 << 32, -1, 0, 7, 8, 9, 1 << 32, math.MaxInt} {
		m := memory(t, 1, 1, 3, 1, 1)
		before := m.Count()
		x := made(t, given{4, 9, false, 0, sig.Of(0)})
		for _, want := range []api.Answer{moved(), moved(), moved(), moved(), done(2), none()} {
			if got := x.Step(m, thread); got != want {
				t.Errorf("thread %d: %+v", thread, got)
			}
		}
		want := []api.Access{
			{Thread: thread, Kind: api.AccLoad, Addr: newest(), Value: 1},
			{Thread: thread, Kind: api.AccLoad, Addr: head(1), Value: 3},
			{Thread: thread, Kind: api.AccLoad, Addr: sigWord(1, 0)},
			{Thread: thread, Kind: api.AccLoad, Addr: head(1), Value: 3},
			{Thread: thread, Kind: api.AccSwap, Addr: newest(), Old: 1, Value: 2, Yes: true},
		}
		if got := m.Log(before); !slices.Equal(got, want) {
			t.Errorf("thread %d: %+v", thread, got)
		}
	}
}

// R4: of two memories of one kind each access is one of that which is handed in.
func TestTwoMemories(t *testing.T) {
	one, two := memory(t, 1, 1, 1, 1, 1), memory(t, 3, 1, 3, 1, 7)
	x := made(t, given{4, 9, false, 0, sig.Of(0)})
	for i, s := range []struct {
		m    *mem.Mem
		want api.Answer
	}{{one, moved()}, {one, waits()}, {two, moved()}, {one, moved()}, {one, waits()}, {two, moved()}, {two, moved()}, {one, moved()}, {two, moved()}, {one, moved()}, {one, waits()}} {
		before := s.m.Count()
		if got := x.Step(s.m, 0); got != s.want || s.m.Count() != before+1 {
			t.Errorf("step %d: %+v", i, got)
		}
	}
	published(t, x, 0)
	if n, _ := two.Peek(newest()); n != 3 {
		t.Errorf("the newest stamp became %d", n)
	}
}

// R4: machines beside each other, each over a memory of its own, go as each goes alone.
func TestMachinesApart(t *testing.T) {
	seed := strewn(2)
	for range 300 {
		var all []given
		var beside, alone []*commit.Machine
		var own, like []*mem.Mem
		for range 4 {
			size := 1 + seed.below(5)
			g := given{size, int64(1 + seed.below(9)), seed.below(2) == 0, int64(seed.below(4)), sig.Of(seed.below(6))}
			stamp, heads := int64(seed.below(size+4)), laid(size, 1, int64(seed.below(9)))
			all = append(all, g)
			beside, alone = append(beside, made(t, g)), append(alone, made(t, g))
			own, like = append(own, memory(t, stamp, heads...)), append(like, memory(t, stamp, heads...))
		}
		said := make([][]api.Answer, 4)
		for range 80 {
			i := seed.below(4)
			said[i] = append(said[i], beside[i].Step(own[i], i))
		}
		for i := range all {
			for k, got := range said[i] {
				if want := alone[i].Step(like[i], 0); got != want {
					t.Fatalf("machine %d of %+v, step %d: %+v, alone %+v", i, all, k, got, want)
				}
			}
			stamp, _ := alone[i].Stamp()
			published(t, beside[i], stamp)
		}
	}
}

// R4, P10.2: of machines beside each other over one memory each has a stamp of its own, one behind the other.
func TestMachinesOverOne(t *testing.T) {
	seed := strewn(5)
	for range 300 {
		m := memory(t, 0, slices.Repeat([]int64{1}, 8)...)
		var beside []*commit.Machine
		for range 8 {
			beside = append(beside, made(t, given{8, 8, true, 0, sig.Of()}))
		}
		stamps := map[int64]int{}
		for range 2000 {
			i := seed.below(8)
			if a := beside[i].Step(m, i); a.Kind == api.AnsDone {
				if stamps[a.Value]++; a.Value != int64(len(stamps)) {
					t.Fatalf("stamp %d, as number %d", a.Value, len(stamps))
				}
			}
		}
		if n, _ := m.Peek(newest()); len(stamps) != 8 || n != 8 {
			t.Fatalf("%v, the newest stamp %d", stamps, n)
		}
	}
}

// R3: what is handed in isn't kept: it is the caller's to change.
func TestReadsNotKept(t *testing.T) {
	reads, c := sig.Of(0), api.Config{Ring: 4, Stamps: 9, Multi: true}
	x, _ := commit.New(c, 0, reads)
	reads[0], reads[7] = math.MaxUint64, math.MaxUint64
	c.Ring, c.Stamps, c.Multi = 2, 1, false
	m := memory(t, 1, 1, 3, 1, 1)
	store(t, m, sigWord(1, 0), -2)
	store(t, m, sigWord(1, 7), -1)
	tells(t, x, m, loads(newest(), 1, moved()), loads(head(1), 3, moved()), loads(sigWord(1, 0), -2, moved()), loads(head(2), 1, moved()))
	store(t, m, newest(), 2)
	store(t, m, newest(), 0)
	tells(t, x, m, swaps(2, false), loads(newest(), 0, moved()), loads(head(1), 3, moved()), swaps(1, true))
	if reads == sig.Of(0) || c.Ring != 2 {
		t.Error("what was handed in changed")
	}
}

// R4: the same calls get the same answers.
func TestSameAgain(t *testing.T) {
	run := func() string {
		seed := strewn(6)
		said := ""
		for range 50 {
			g := given{1 + seed.below(16), int64(1 + seed.below(30)), seed.below(2) == 0, int64(seed.below(9)), seed.someReads()}
			m := memory(t, g.start+int64(seed.below(g.size+1)), laid(g.size, g.start, g.start+2)...)
			x := made(t, g)
			for range 40 {
				a, v := scribble(&seed, g)
				store(t, m, a, v)
				said += fmt.Sprint(x.Step(m, seed.below(9)))
			}
			stamp, yes := x.Stamp()
			said += fmt.Sprint(stamp, yes, m.Log(0))
		}
		return said
	}
	if run() != run() {
		t.Error("two runs differ")
	}
}

// entry is one that is published, and laid and made complete behind that.
type entry struct {
	sig    api.Sig
	stores int // of its own: its signature, its head, and its head once more
}

// writer is a transaction: it commits by a machine, and then goes on with its entry.
type writer struct {
	given
	writes api.Sig
	x      *commit.Machine
	stamp  int64
}

// crowd are writers over one memory, a step at a time.
type crowd struct {
	m       *mem.Mem
	entries []*entry // the first one has the stamp 1
	seed    *strewn
	ends    map[api.Answer]int
	anew    int // how many published in a later round than their first one
}

// begin is a new writer: all entries up to its start stamp are complete.
func (c *crowd) begin(t *testing.T, size int, multi bool) *writer {
	t.Helper()
	start := ring.Complete(c.m)
	// Some began a while ago.
	if c.seed.below(3) == 0 {
		start = max(start-int64(c.seed.below(3)), 0)
	}
	g := given{size, 1 << 40, multi, start, api.Sig{}}
	for range c.seed.below(3) {
		g.reads = sig.With(g.reads, c.seed.below(40))
	}
	return &writer{given: g, writes: sig.Of(c.seed.below(40)), x: made(t, g)}
}

// act makes a step of a writer; false: it is through.
func (c *crowd) act(t *testing.T, w *writer, thread int) bool {
	t.Helper()
	if w.stamp != 0 {
		return c.back(t, w)
	}
	before := ring.Newest(c.m)
	a := w.x.Step(c.m, thread)
	switch a.Kind {
	case api.AnsWait:
		if ring.Complete(c.m) == ring.Newest(c.m) {
			t.Fatalf("%+v waits, and all is complete", w.given)
		}
	case api.AnsFailed:
		c.failedRightly(t, w, a)
		return false
	case api.AnsDone:
		if a.Value != before+1 {
			t.Fatalf("%d was the newest stamp, then %d", before, a.Value)
		}
		c.heldTillNow(t, w, thread, a.Value-1)
		w.stamp = a.Value
		c.entries = append(c.entries, &entry{sig: w.writes})
		c.ends[done(0)]++
	}
	return true
}

// back makes the next store of a writer's entry, once the one that stood there is over, and, at the end, all older ones are complete.
func (c *crowd) back(t *testing.T, w *writer) bool {
	t.Helper()
	e, slot := c.entries[w.stamp-1], int(w.stamp%int64(w.size))
	switch {
	case e.stores < 8:
		store(t, c.m, sigWord(slot, e.stores), int64(e.sig[e.stores]))
	case e.stores == 8:
		store(t, c.m, head(slot), 2*w.stamp)
	case ring.Complete(c.m) == w.stamp-1:
		store(t, c.m, head(slot), 2*w.stamp+1)
		return false
	default:
		return true
	}
	e.stores++
	return true
}

// heldTillNow: the newest stamp was N from the beginning of a thread's last round on, no entry above its start up to N has a bit of its reads, and the entry that is published now has room.
func (c *crowd) heldTillNow(t *testing.T, w *writer, thread int, n int64) {
	t.Helper()
	log := c.m.Log(0)
	earlier := log[:len(log)-1]
	var began api.Access // the last round's first access
	others, swapped := 0, false
	for _, access := range earlier {
		switch {
		case access.Thread == thread && access.Kind == api.AccLoad && access.Addr == newest():
			began, others = access, 0
		case access.Thread == thread && access.Kind == api.AccSwap:
			swapped = true
		case access.Addr == newest() && access.Yes:
			others++
		}
	}
	if began.Value != n || others != 0 {
		t.Fatalf("%+v publishes %d: it saw %d, and then %d others published", w.given, n+1, began.Value, others)
	}
	if swapped {
		c.anew++
	}
	for s := w.start + 1; s <= n; s++ {
		if sig.Meets(c.entries[s-1].sig, w.reads) {
			t.Fatalf("%+v publishes %d, and %d has a bit of its reads", w.given, n+1, s)
		}
	}
	room := int64(1)
	if w.multi {
		room = int64(w.size)
	}
	if n+1-ring.Complete(c.m) > room {
		t.Fatalf("%+v publishes %d, and just %d is complete", w.given, n+1, ring.Complete(c.m))
	}
}

// failedRightly: why it ended is so.
func (c *crowd) failedRightly(t *testing.T, w *writer, a api.Answer) {
	t.Helper()
	c.ends[a]++
	meets := slices.ContainsFunc(c.entries[w.start:], func(e *entry) bool { return sig.Meets(e.sig, w.reads) })
	far := ring.Newest(c.m)-w.start > int64(w.size)
	if a != conflict() && a != overrun() || a == conflict() && !meets || a == overrun() && !far {
		t.Fatalf("%+v: %+v; the newest stamp %d", w.given, a, ring.Newest(c.m))
	}
}

// P10.4: of writers beside each other, of both kinds of configurations, each publishes only where all that it read holds up to the newest stamp, which was so from the beginning of its last round on.
func TestPublishesWhatHolds(t *testing.T) {
	seed := strewn(7)
	for _, multi := range []bool{false, true} {
		ends, anew := map[api.Answer]int{}, 0
		for round := range 400 {
			size := 1 + round%6
			m, _ := mem.New(1, size)
			c := &crowd{m: m, seed: &seed, ends: ends}
			// Each has a number of its own as its thread, so that the log tells them apart.
			threads := 0
			at := make([]*writer, 4)
			number := make([]int, 4)
			for range 600 {
				i := seed.below(4)
				if at[i] == nil {
					at[i], number[i] = c.begin(t, size, multi), threads
					threads++
				}
				if !c.act(t, at[i], number[i]) {
					at[i] = nil
				}
			}
			anew += c.anew
		}
		for answer, least := range map[api.Answer]int{done(0): 3000, conflict(): 300, overrun(): 300} {
			if ends[answer] < least {
				t.Errorf("multi %v: just %d ended with %+v", multi, ends[answer], answer)
			}
		}
		if anew < 100 {
			t.Errorf("multi %v: just %d published in a later round", multi, anew)
		}
	}
}
