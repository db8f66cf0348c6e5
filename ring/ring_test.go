package ring_test

import (
	"fmt"
	"math"
	"math/big"
	"slices"
	"testing"

	"carousel/api"
	"carousel/mem"
	"carousel/ring"
)

func newest() api.Addr             { return api.Addr{Kind: api.AddrNewest} }
func head(slot int) api.Addr       { return api.Addr{Kind: api.AddrHead, I: slot} }
func sigWord(slot, j int) api.Addr { return api.Addr{Kind: api.AddrSig, I: slot, J: j} }

// made is a memory that must be there.
func made(t *testing.T, size int) *mem.Mem {
	t.Helper()
	m, why := mem.New(2, size)
	if m == nil || why != api.OK {
		t.Fatalf("New(2, %d): %v, error %d", size, m, why)
	}
	return m
}

// store puts a word where it must be possible.
func store(t *testing.T, m *mem.Mem, a api.Addr, v int64) {
	t.Helper()
	if why := m.Store(0, a, v); why != api.OK {
		t.Fatalf("Store to %+v: error %d", a, why)
	}
}

// strewn gives numbers that are spread out, the same ones each time.
type strewn uint64

func (s *strewn) below(n int) int {
	*s = *s*6364136223846793005 + 1442695040888963407
	return int(uint64(*s>>33) % uint64(n))
}

// noSizes are numbers of slots that no ring has.
func noSizes() []int {
	return []int{math.MinInt, math.MinInt32, -16, -1, 0, 17, 18, 32, 1 << 32, 1<<32 + 1, 1<<32 + 16, math.MaxInt32, math.MaxInt}
}

// someStamps are stamps around 0, around the places where something could go round, and at the ends.
func someStamps() []int64 {
	var stamps []int64
	for _, middle := range []int64{math.MinInt64 + 40, -1 << 62, -1 << 32, 0, 1 << 32, 1 << 40, 1 << 62, math.MaxInt64 - 40} {
		for d := int64(-40); d <= 40; d++ {
			stamps = append(stamps, middle+d)
		}
	}
	return stamps
}

// headsAround are head words that say the stamps around one, done or not, and some that lie far off.
func headsAround(stamp int64) []int64 {
	heads := []int64{math.MinInt64, math.MinInt64 + 1, -2, -1, 0, 1, 2, 3, math.MaxInt64 - 1, math.MaxInt64}
	for d := int64(-35); d <= 5; d++ {
		heads = append(heads, 2*(stamp+d), 2*(stamp+d)+1)
	}
	return heads
}

// stampIn is the stamp that a head word says: its half, downwards.
func stampIn(head int64) *big.Int {
	half := new(big.Int)
	half.Div(big.NewInt(head&^1), big.NewInt(2))
	return half
}

// isOver is what P4.2 says, of a stamp of any size.
func isOver(head int64, stamp *big.Int) bool {
	if stamp.Sign() < 1 {
		return true
	}
	apart := stampIn(head).Cmp(stamp)
	return apart > 0 || apart == 0 && head&1 == 1
}

// isLaid likewise.
func isLaid(head int64, stamp *big.Int) bool { return stampIn(head).Cmp(stamp) == 0 }

// slotOf is the stamp modulo size, by numbers of any size.
func slotOf(stamp int64, size int) int {
	return int(new(big.Int).Mod(big.NewInt(stamp), big.NewInt(int64(size))).Int64())
}

// P4.1 to P4.3: the chapter's examples.
func TestExamples(t *testing.T) {
	for _, c := range []struct {
		stamp int64
		size  int
		want  int
	}{{17, 16, 1}, {-1, 16, 15}, {5, 0, 0}} {
		if got := ring.Slot(c.stamp, c.size); got != c.want {
			t.Errorf("Slot(%d, %d): %d, not %d", c.stamp, c.size, got, c.want)
		}
	}
	for _, c := range []struct {
		head, stamp int64
		over, laid  bool
	}{{11, 5, true, true}, {10, 5, false, true}, {12, 5, true, false}, {0, 0, true, true}, {9, 5, false, false}} {
		if over, laid := ring.Over(c.head, c.stamp), ring.Laid(c.head, c.stamp); over != c.over || laid != c.laid {
			t.Errorf("of the head %d and the stamp %d: Over %v, Laid %v", c.head, c.stamp, over, laid)
		}
	}
	for _, c := range []struct {
		head, stamp int64
		size        int
		want        bool
	}{{1, 3, 4, true}, {10, 9, 4, false}, {11, 9, 4, true}, {11, 9, 0, false}, {11, 9, 17, false}} {
		if got := ring.Free(c.head, c.stamp, c.size); got != c.want {
			t.Errorf("Free(%d, %d, %d): %v", c.head, c.stamp, c.size, got)
		}
	}
}

// P4.1: stamps of all sizes, below 0 too, in every ring.
func TestSlot(t *testing.T) {
	for size := 1; size <= 16; size++ {
		for _, stamp := range someStamps() {
			if got, want := ring.Slot(stamp, size), slotOf(stamp, size); got != want {
				t.Errorf("Slot(%d, %d): %d, not %d", stamp, size, got, want)
			}
		}
	}
}

// P4.1: of a size that no ring has it is 0.
func TestSlotOfNoRing(t *testing.T) {
	for _, size := range noSizes() {
		for _, stamp := range someStamps() {
			if got := ring.Slot(stamp, size); got != 0 {
				t.Errorf("Slot(%d, %d): %d", stamp, size, got)
			}
		}
	}
}

// P4.2: heads around the stamp, done and not, at all stamps.
func TestOverAndLaid(t *testing.T) {
	for _, stamp := range someStamps() {
		for _, head := range headsAround(stamp) {
			whole := big.NewInt(stamp)
			if got, want := ring.Over(head, stamp), isOver(head, whole); got != want {
				t.Errorf("Over(%d, %d): %v", head, stamp, got)
			}
			if got, want := ring.Laid(head, stamp), isLaid(head, whole); got != want {
				t.Errorf("Laid(%d, %d): %v", head, stamp, got)
			}
		}
	}
}

// P4.2: a stamp below 1 is over, whatever the head is, and yet laid only where the head says it.
func TestStampsBelowOne(t *testing.T) {
	for _, stamp := range []int64{0, -1, -2, math.MinInt64} {
		for _, head := range headsAround(stamp) {
			if !ring.Over(head, stamp) {
				t.Errorf("Over(%d, %d): false", head, stamp)
			}
		}
	}
	if !ring.Laid(1, 0) || !ring.Laid(0, 0) || ring.Laid(2, 0) || !ring.Laid(-1, -1) || !ring.Laid(-2, -1) || ring.Laid(-3, -1) {
		t.Error("Laid, of stamps below 1")
	}
}

// P4.2: stamps that no head word can say: nothing is laid, and none of them is over.
func TestStampsOfNoHead(t *testing.T) {
	for _, stamp := range []int64{1 << 62, 1<<62 + 1, math.MaxInt64} {
		for _, head := range headsAround(stamp) {
			if ring.Laid(head, stamp) || ring.Over(head, stamp) {
				t.Errorf("of the head %d and the stamp %d: Laid %v, Over %v", head, stamp, ring.Laid(head, stamp), ring.Over(head, stamp))
			}
		}
	}
	if !ring.Laid(math.MaxInt64, 1<<62-1) || !ring.Over(math.MaxInt64, 1<<62-1) || ring.Over(math.MaxInt64-1, 1<<62-1) {
		t.Error("the greatest stamp of a head word")
	}
}

// P4.3, with R6: the stamp less size, as a whole number: at the least stamps it doesn't go round.
func TestFree(t *testing.T) {
	for size := 1; size <= 16; size++ {
		for _, stamp := range someStamps() {
			ahead := new(big.Int).Sub(big.NewInt(stamp), big.NewInt(int64(size)))
			for _, head := range headsAround(stamp) {
				if got, want := ring.Free(head, stamp, size), isOver(head, ahead); got != want {
					t.Errorf("Free(%d, %d, %d): %v", head, stamp, size, got)
				}
			}
		}
	}
}

// P4.3: at the least stamp a slot is free, whatever stands there.
func TestFreeAtTheLeastStamp(t *testing.T) {
	for size := 1; size <= 16; size++ {
		for _, head := range []int64{math.MinInt64, -1, 0, 1, math.MaxInt64} {
			if !ring.Free(head, math.MinInt64, size) {
				t.Errorf("Free(%d, the least, %d): false", head, size)
			}
		}
	}
}

// P4.3: of a size that no ring has nothing is free.
func TestFreeOfNoRing(t *testing.T) {
	for _, size := range noSizes() {
		for _, stamp := range []int64{math.MinInt64, -1, 0, 1, 2, 9, 16, 17, 40, math.MaxInt64} {
			for _, head := range headsAround(stamp) {
				if ring.Free(head, stamp, size) {
					t.Errorf("Free(%d, %d, %d): true", head, stamp, size)
				}
			}
		}
	}
}

// P4.4 and P4.5: a new memory.
func TestNewMemory(t *testing.T) {
	for size := 1; size <= 16; size++ {
		m := made(t, size)
		if n, c, l := ring.Newest(m), ring.Complete(m), ring.Entries(m); n != 0 || c != 0 || len(l) != 0 {
			t.Errorf("%d slots: newest %d, complete %d, entries %+v", size, n, c, l)
		}
	}
}

// P4.4 and P4.5: the chapter's third example; a signature is told of a laid entry alone.
func TestExampleOfARing(t *testing.T) {
	m := made(t, 4)
	store(t, m, newest(), 2)
	store(t, m, head(1), 3)
	store(t, m, sigWord(1, 0), 5)
	store(t, m, sigWord(1, 7), math.MinInt64)
	store(t, m, sigWord(2, 3), 9)
	want := []api.Entry{{Stamp: 1, Mark: api.MarkDone, Sig: api.Sig{0: 5, 7: 1 << 63}}, {Stamp: 2, Mark: api.MarkRaw}}
	if n, c, l := ring.Newest(m), ring.Complete(m), ring.Entries(m); n != 2 || c != 1 || !slices.Equal(l, want) {
		t.Errorf("newest %d, complete %d, entries %+v", n, c, l)
	}
	store(t, m, head(2), 4)
	want[1] = api.Entry{Stamp: 2, Mark: api.MarkWriting, Sig: api.Sig{3: 9}}
	if c, l := ring.Complete(m), ring.Entries(m); c != 1 || !slices.Equal(l, want) {
		t.Errorf("laid: complete %d, entries %+v", c, l)
	}
	store(t, m, head(2), 5)
	want[1].Mark = api.MarkDone
	if c, l := ring.Complete(m), ring.Entries(m); c != 2 || !slices.Equal(l, want) {
		t.Errorf("complete: complete %d, entries %+v", c, l)
	}
	store(t, m, head(2), 12)
	want[1].Sig = api.Sig{}
	if c, l := ring.Complete(m), ring.Entries(m); c != 2 || !slices.Equal(l, want) {
		t.Errorf("taken by a later one: complete %d, entries %+v", c, l)
	}
}

// wordAt is a word of a memory that must be there.
func wordAt(t *testing.T, m *mem.Mem, a api.Addr) int64 {
	t.Helper()
	word, why := m.Peek(a)
	if why != api.OK {
		t.Fatalf("Peek of %+v: error %d", a, why)
	}
	return word
}

// sigAt is a slot's signature, word by word.
func sigAt(t *testing.T, m *mem.Mem, slot int) api.Sig {
	t.Helper()
	var sig api.Sig
	for j := range sig {
		sig[j] = uint64(wordAt(t, m, sigWord(slot, j)))
	}
	return sig
}

// headOf is the head word of a stamp's slot.
func headOf(t *testing.T, m *mem.Mem, stamp *big.Int) int64 {
	t.Helper()
	_, size := m.Sizes()
	return wordAt(t, m, head(slotOf(stamp.Int64(), size)))
}

// spanOf: the stamps above the first answer, up to the second, by numbers of any size.
func spanOf(n int64, size int) (*big.Int, *big.Int) {
	before := new(big.Int).Sub(big.NewInt(n), big.NewInt(int64(size)))
	if before.Sign() < 0 {
		before.SetInt64(0)
	}
	return before, big.NewInt(n)
}

// completeOf is what P4.4 says: of all stamps from the greatest one down the first that may be it.
func completeOf(t *testing.T, m *mem.Mem) int64 {
	t.Helper()
	n := wordAt(t, m, newest())
	if n < 1 {
		return 0
	}
	_, size := m.Sizes()
	one := big.NewInt(1)
	before, c := spanOf(n, size)
	for ; c.Cmp(before) > 0; c.Sub(c, one) {
		all := true
		for s := new(big.Int).Add(before, one); s.Cmp(c) <= 0; s.Add(s, one) {
			all = all && isOver(headOf(t, m, s), s)
		}
		if all {
			break
		}
	}
	return c.Int64()
}

// entriesOf is what P4.5 says.
func entriesOf(t *testing.T, m *mem.Mem) []api.Entry {
	t.Helper()
	n := wordAt(t, m, newest())
	if n < 1 {
		return nil
	}
	_, size := m.Sizes()
	one := big.NewInt(1)
	before, last := spanOf(n, size)
	var entries []api.Entry
	for s := new(big.Int).Add(before, one); s.Cmp(last) <= 0; s.Add(s, one) {
		entry := api.Entry{Stamp: s.Int64(), Mark: api.MarkRaw}
		head := headOf(t, m, s)
		if isLaid(head, s) {
			entry.Mark = api.MarkWriting
			entry.Sig = sigAt(t, m, slotOf(s.Int64(), size))
		}
		if isOver(head, s) {
			entry.Mark = api.MarkDone
		}
		entries = append(entries, entry)
	}
	return entries
}

// sameViews holds all views of a memory against what the chapter says of its words.
func sameViews(t *testing.T, what string, m *mem.Mem) {
	t.Helper()
	if got, want := ring.Newest(m), wordAt(t, m, newest()); got != want {
		t.Errorf("%s: Newest %d, not %d", what, got, want)
	}
	if got, want := ring.Complete(m), completeOf(t, m); got != want {
		t.Errorf("%s: Complete %d, not %d", what, got, want)
	}
	if got, want := ring.Entries(m), entriesOf(t, m); !slices.Equal(got, want) {
		t.Errorf("%s: Entries %+v, not %+v", what, got, want)
	}
}

// signed gives each word of each signature a number of its own, so that no two are taken for one another.
func signed(t *testing.T, m *mem.Mem) {
	t.Helper()
	_, size := m.Sizes()
	for slot := range size {
		for j := range api.SigWords {
			store(t, m, sigWord(slot, j), int64(-1-slot*api.SigWords-j))
		}
	}
}

// P4.4 and P4.5: all heads from a stamp long gone to one to come, in every slot of small rings.
func TestSmallRings(t *testing.T) {
	for size := 1; size <= 3; size++ {
		for n := int64(-1); n <= 5; n++ {
			var heads []int64
			for h := 2*(n-int64(size)) - 2; h <= 2*n+5; h++ {
				heads = append(heads, h)
			}
			m := made(t, size)
			signed(t, m)
			store(t, m, newest(), n)
			all := 1
			for range size {
				all *= len(heads)
			}
			for which := range all {
				rest := which
				for slot := range size {
					store(t, m, head(slot), heads[rest%len(heads)])
					rest /= len(heads)
				}
				sameViews(t, fmt.Sprintf("%d slots, newest %d, which %d", size, n, which), m)
			}
		}
	}
}

// P4.4 and P4.5, with R5: whatever stands in the words, in every ring: newest stamps from end to end, heads around them and far off.
func TestAnyWords(t *testing.T) {
	s := strewn(4)
	for size := 1; size <= 16; size++ {
		m := made(t, size)
		signed(t, m)
		for _, n := range someStamps() {
			store(t, m, newest(), n)
			heads := headsAround(n)
			near := heads[len(heads)-44:]
			for range 4 {
				for slot := range size {
					from := near
					if s.below(4) == 0 {
						from = heads
					}
					store(t, m, head(slot), from[s.below(len(from))])
				}
				sameViews(t, fmt.Sprintf("%d slots, newest %d", size, n), m)
			}
		}
	}
}

// P4.4 and P4.5: how far all is over decides, also where later entries are over; each length of what is over.
func TestCompleteStopsAtTheFirst(t *testing.T) {
	for size := 1; size <= 16; size++ {
		for _, n := range []int64{1, 2, 15, 16, 17, 1000, 1 << 40, 1<<61 + 7} {
			before := max(n-int64(size), 0)
			for missing := before + 1; missing <= n; missing++ {
				m := made(t, size)
				store(t, m, newest(), n)
				for s := before + 1; s <= n; s++ {
					store(t, m, head(slotOf(s, size)), 2*s+1)
				}
				if got := ring.Complete(m); got != n {
					t.Errorf("%d slots, newest %d, all done: Complete %d", size, n, got)
				}
				store(t, m, head(slotOf(missing, size)), 2*missing)
				if got := ring.Complete(m); got != missing-1 {
					t.Errorf("%d slots, newest %d, all done but %d: Complete %d", size, n, missing, got)
				}
				sameViews(t, fmt.Sprintf("%d slots, newest %d, all done but %d", size, n, missing), m)
			}
		}
	}
}

// P4.4 and P4.5: at the greatest newest stamp nothing goes round: no head says such stamps, so all entries are raw.
func TestGreatestNewest(t *testing.T) {
	for size := 1; size <= 16; size++ {
		m := made(t, size)
		signed(t, m)
		store(t, m, newest(), math.MaxInt64)
		for slot := range size {
			store(t, m, head(slot), math.MaxInt64)
		}
		if got, want := ring.Complete(m), math.MaxInt64-int64(size); got != want {
			t.Errorf("%d slots: Complete %d, not %d", size, got, want)
		}
		entries := ring.Entries(m)
		if len(entries) != size {
			t.Fatalf("%d slots: %d entries", size, len(entries))
		}
		for i, entry := range entries {
			if want := (api.Entry{Stamp: math.MaxInt64 - int64(size-1-i), Mark: api.MarkRaw}); entry != want {
				t.Errorf("%d slots: %+v, not %+v", size, entry, want)
			}
		}
	}
}

// P4.4 and P4.5: a newest stamp below 1 is told as it stands; nothing is complete above 0, and there is no entry.
func TestNewestBelowOne(t *testing.T) {
	for _, n := range []int64{math.MinInt64, math.MinInt64 + 1, -17, -16, -1, 0} {
		for _, size := range []int{1, 4, 16} {
			m := made(t, size)
			store(t, m, newest(), n)
			for slot := range size {
				store(t, m, head(slot), int64(2*slot+1))
			}
			if got, c, l := ring.Newest(m), ring.Complete(m), ring.Entries(m); got != n || c != 0 || len(l) != 0 {
				t.Errorf("%d slots, newest %d: %d, complete %d, entries %+v", size, n, got, c, l)
			}
		}
	}
}

// P4.4 and P4.5: looking is no access, and changes no word.
func TestLookingIsNoAccess(t *testing.T) {
	m := made(t, 4)
	signed(t, m)
	store(t, m, newest(), 6)
	store(t, m, head(2), 13)
	log := m.Log(0)
	sameViews(t, "looking", m)
	if !slices.Equal(m.Log(0), log) {
		t.Errorf("accesses: %+v", m.Log(len(log)))
	}
	sameViews(t, "looking again", m)
}

// P4.5, with R3: what comes out is new memory, its spare room too.
func TestEntriesAreNewMemory(t *testing.T) {
	for size := 1; size <= 16; size++ {
		m := made(t, size)
		signed(t, m)
		store(t, m, newest(), 20)
		for slot := range size {
			store(t, m, head(slot), int64(2*(slot+10)+1))
		}
		want := entriesOf(t, m)
		first, second := ring.Entries(m), ring.Entries(m)
		room := first[:cap(first)]
		for i := range room {
			room[i] = api.Entry{Stamp: -9, Mark: 9, Sig: api.Sig{9}}
		}
		if !slices.Equal(second, want) || !slices.Equal(ring.Entries(m), want) {
			t.Errorf("%d slots: an answer shares its memory", size)
		}
		store(t, m, newest(), 21)
		if !slices.Equal(second, want) {
			t.Errorf("%d slots: an answer changed with the memory", size)
		}
	}
}

// P4.4 and P4.5, with R4: what is told of a memory hangs on that memory alone.
func TestMemoriesApart(t *testing.T) {
	m, other := made(t, 4), made(t, 2)
	signed(t, m)
	store(t, m, newest(), 5)
	sameViews(t, "one", m)
	sameViews(t, "another", other)
	store(t, other, newest(), 7)
	sameViews(t, "another", other)
	sameViews(t, "one", m)
}

// P4.4 and P4.5: a nil memory has no stamp and no entry.
func TestNoMemory(t *testing.T) {
	if n, c, l := ring.Newest(nil), ring.Complete(nil), ring.Entries(nil); n != 0 || c != 0 || len(l) != 0 {
		t.Errorf("newest %d, complete %d, entries %+v", n, c, l)
	}
}

// life plays entries that are published, laid and completed in the order of their stamps.
type life struct {
	m                          *mem.Mem
	size                       int
	published, laid, completed int64
}

// step does one thing of the given kind, if it may be done now.
func (l *life) step(t *testing.T, kind int) {
	t.Helper()
	switch {
	case kind == 0 && l.published-l.completed < int64(l.size):
		l.published++
		store(t, l.m, newest(), l.published)
	case kind == 1 && l.laid < l.published:
		l.laid++
		slot := slotOf(l.laid, l.size)
		for j := range api.SigWords {
			store(t, l.m, sigWord(slot, j), l.laid*10+int64(j))
		}
		store(t, l.m, head(slot), 2*l.laid)
	case kind == 2 && l.completed < l.laid:
		l.completed++
		store(t, l.m, head(slotOf(l.completed, l.size)), 2*l.completed+1)
	}
}

// P4.6: entries that live as they should: Complete is N less those that aren't over; up to it each stamp is over, and the next one isn't.
func TestLife(t *testing.T) {
	s := strewn(6)
	for size := 1; size <= 16; size++ {
		l := &life{m: made(t, size), size: size}
		for step := range 600 {
			l.step(t, s.below(3))
			what := fmt.Sprintf("%d slots, step %d", size, step)
			l.hold(t, what)
			sameViews(t, what, l.m)
		}
		if l.completed < 3*int64(size) {
			t.Errorf("%d slots: only %d entries lived", size, l.completed)
		}
	}
}

// hold holds what the calls say against what was done.
func (l *life) hold(t *testing.T, what string) {
	t.Helper()
	complete := ring.Complete(l.m)
	if ring.Newest(l.m) != l.published || complete != l.completed {
		t.Errorf("%s: newest %d, complete %d, not %d and %d", what, ring.Newest(l.m), complete, l.published, l.completed)
	}
	open := int64(0)
	for _, entry := range ring.Entries(l.m) {
		if entry.Mark != api.MarkDone {
			open++
		}
	}
	if complete != l.published-open {
		t.Errorf("%s: complete %d, newest %d, but %d entries aren't over", what, complete, l.published, open)
	}
	for stamp := int64(-1); stamp <= l.published; stamp++ {
		word := wordAt(t, l.m, head(ring.Slot(stamp, l.size)))
		if ring.Over(word, stamp) != (stamp <= complete) {
			t.Errorf("%s: complete %d, but Over of %d is %v", what, complete, stamp, ring.Over(word, stamp))
		}
	}
	next := l.published + 1
	word := wordAt(t, l.m, head(ring.Slot(next, l.size)))
	if ring.Free(word, next, l.size) != (l.published-l.completed < int64(l.size)) {
		t.Errorf("%s: Free of the next stamp %d is %v", what, next, ring.Free(word, next, l.size))
	}
	if ring.Over(word, next) {
		t.Errorf("%s: the next stamp %d is over", what, next)
	}
}
