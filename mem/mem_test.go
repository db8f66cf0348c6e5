package mem_test

import (
	"fmt"
	"math"
	"slices"
	"testing"

	"carousel/api"
	"carousel/mem"
)

func newest() api.Addr             { return api.Addr{Kind: api.AddrNewest} }
func head(slot int) api.Addr       { return api.Addr{Kind: api.AddrHead, I: slot} }
func sigWord(slot, j int) api.Addr { return api.Addr{Kind: api.AddrSig, I: slot, J: j} }
func cell(i int) api.Addr          { return api.Addr{Kind: api.AddrCell, I: i} }

// made is a memory that must be there.
func made(t *testing.T, cells, ring int) *mem.Mem {
	t.Helper()
	m, why := mem.New(cells, ring)
	if m == nil || why != api.OK {
		t.Fatalf("New(%d, %d): %v, error %d", cells, ring, m, why)
	}
	return m
}

// allAddrs are the addresses of a memory, rising, by the chapter's list.
func allAddrs(cells, ring int) []api.Addr {
	addrs := []api.Addr{newest()}
	for slot := range ring {
		addrs = append(addrs, head(slot))
	}
	for slot := range ring {
		for j := range api.SigWords {
			addrs = append(addrs, sigWord(slot, j))
		}
	}
	for i := range cells {
		addrs = append(addrs, cell(i))
	}
	return addrs
}

// firstWord is what stands at an address at the beginning.
func firstWord(a api.Addr) int64 {
	if a.Kind == api.AddrHead {
		return 1
	}
	return 0
}

// noAddrs are addresses that a memory of so many cells and slots doesn't have.
func noAddrs(cells, ring int) []api.Addr {
	ends := []int{math.MinInt, math.MinInt32, -1, math.MaxInt32, math.MaxInt, 1 << 32}
	addrs := []api.Addr{
		{}, {Kind: 5}, {Kind: -1},
		{Kind: api.AddrNewest, I: 1}, {Kind: api.AddrNewest, J: 1},
		head(ring), {Kind: api.AddrHead, J: 1}, {Kind: api.AddrHead, I: ring - 1, J: 1},
		sigWord(ring, 0), sigWord(0, 8), sigWord(ring-1, 8), sigWord(0, 9), sigWord(ring, 7),
		cell(cells), {Kind: api.AddrCell, J: 1}, {Kind: api.AddrCell, I: cells - 1, J: 1},
	}
	for _, end := range ends {
		addrs = append(addrs, api.Addr{Kind: end})
		for kind := api.AddrNewest; kind <= api.AddrCell; kind++ {
			addrs = append(addrs, api.Addr{Kind: kind, I: end}, api.Addr{Kind: kind, J: end}, api.Addr{Kind: kind, I: end, J: end})
		}
	}
	return addrs
}

// strewn gives numbers that are spread out, the same ones each time.
type strewn uint64

func (s *strewn) below(n int) int {
	*s = *s*6364136223846793005 + 1442695040888963407
	return int(uint64(*s>>33) % uint64(n))
}

// do makes the access that is told, and says what it should be in the log.
func do(t *testing.T, m *mem.Mem, kind, thread int, a api.Addr, old, v int64) api.Access {
	t.Helper()
	access := api.Access{Thread: thread, Kind: kind, Addr: a}
	why := api.OK
	switch kind {
	case api.AccLoad:
		access.Value, why = m.Load(thread, a)
	case api.AccStore:
		access.Value = v
		why = m.Store(thread, a, v)
	case api.AccSwap:
		access.Old, access.Value = old, v
		access.Yes, why = m.Swap(thread, a, old, v)
	}
	if why != api.OK {
		t.Fatalf("access %+v: error %d", access, why)
	}
	return access
}

// someAccesses makes n accesses, strewn over few words, and answers what the log should hold.
func someAccesses(t *testing.T, m *mem.Mem, n int) []api.Access {
	t.Helper()
	addrs := allAddrs(m.Sizes())
	values := []int64{0, 1, 2, 1, 0, math.MinInt64, math.MaxInt64}
	threads := []int{0, 1, 7, -1, math.MinInt, math.MaxInt}
	s := strewn(n)
	var made []api.Access
	for range n {
		kind := api.AccLoad + s.below(3)
		thread := threads[s.below(len(threads))]
		a := addrs[s.below(len(addrs))]
		made = append(made, do(t, m, kind, thread, a, values[s.below(len(values))], values[s.below(len(values))]))
	}
	return made
}

func sameAccesses(t *testing.T, what string, got, want []api.Access) {
	t.Helper()
	if !slices.Equal(got, want) {
		t.Errorf("%s: %+v, not %+v", what, got, want)
	}
}

// P3.1: the sizes that may be, each with the words of the beginning.
func TestNew(t *testing.T) {
	for _, cells := range []int{1, 2, 3, 4, 100, 1023, 1024} {
		for ring := 1; ring <= 16; ring++ {
			m := made(t, cells, ring)
			if c, r := m.Sizes(); c != cells || r != ring {
				t.Errorf("New(%d, %d): Sizes %d %d", cells, ring, c, r)
			}
			for _, a := range allAddrs(cells, ring) {
				if v, why := m.Peek(a); v != firstWord(a) || why != api.OK {
					t.Errorf("New(%d, %d): %+v is %d, error %d", cells, ring, a, v, why)
				}
			}
			if m.Count() != 0 || len(m.Log(0)) != 0 || len(m.Touched()) != 0 {
				t.Errorf("New(%d, %d): it is accessed already", cells, ring)
			}
		}
	}
}

// P3.1: the sizes that are refused.
func TestNewRefused(t *testing.T) {
	bad := []int{math.MinInt, -1, 0, math.MaxInt, 1 << 32, 1<<32 + 1}
	var sizes [][2]int
	for _, n := range bad {
		sizes = append(sizes, [2]int{n, 1}, [2]int{4, n}, [2]int{n, n})
	}
	sizes = append(sizes, [2]int{1025, 1}, [2]int{1025, 16}, [2]int{1, 17}, [2]int{1024, 17}, [2]int{1025, 17}, [2]int{0, 17}, [2]int{0, 2}, [2]int{4, 17})
	for _, size := range sizes {
		if m, why := mem.New(size[0], size[1]); m != nil || why != api.ErrArg {
			t.Errorf("New(%d, %d): %v, error %d", size[0], size[1], m, why)
		}
	}
}

// P3.1: what is done to a memory changes its sizes never.
func TestSizesStay(t *testing.T) {
	m := made(t, 3, 2)
	someAccesses(t, m, 100)
	if c, r := m.Sizes(); c != 3 || r != 2 {
		t.Errorf("Sizes %d %d", c, r)
	}
}

// P3.2 to P3.4: the chapter's second example.
func TestExample(t *testing.T) {
	m := made(t, 4, 2)
	if v, why := m.Load(7, cell(3)); v != 0 || why != api.OK {
		t.Errorf("Load: %d, error %d", v, why)
	}
	if why := m.Store(7, cell(3), 9); why != api.OK {
		t.Errorf("Store: error %d", why)
	}
	if yes, why := m.Swap(8, cell(3), 9, 5); !yes || why != api.OK {
		t.Errorf("Swap: %v, error %d", yes, why)
	}
	if yes, why := m.Swap(8, cell(3), 9, 5); yes || why != api.OK {
		t.Errorf("Swap again: %v, error %d", yes, why)
	}
	if n := m.Count(); n != 4 {
		t.Errorf("Count: %d", n)
	}
	sameAccesses(t, "Log(0)", m.Log(0), []api.Access{
		{Thread: 7, Kind: api.AccLoad, Addr: cell(3)},
		{Thread: 7, Kind: api.AccStore, Addr: cell(3), Value: 9},
		{Thread: 8, Kind: api.AccSwap, Addr: cell(3), Old: 9, Value: 5, Yes: true},
		{Thread: 8, Kind: api.AccSwap, Addr: cell(3), Old: 9, Value: 5},
	})
	if l := m.Touched(); !slices.Equal(l, []api.Touch{{Addr: cell(3), Loads: 1, Stores: 1, Swaps: 2}}) {
		t.Errorf("Touched: %+v", l)
	}
}

// P3.2: each word is one of its own: what is stored to one stands there, and nowhere else.
func TestWordsApart(t *testing.T) {
	for _, size := range [][2]int{{1, 1}, {4, 2}, {3, 16}, {1024, 16}} {
		m := made(t, size[0], size[1])
		addrs := allAddrs(size[0], size[1])
		for i, a := range addrs {
			if why := m.Store(i, a, int64(1000+i)); why != api.OK {
				t.Errorf("Store to %+v: error %d", a, why)
			}
		}
		for i, a := range addrs {
			if v, why := m.Peek(a); v != int64(1000+i) || why != api.OK {
				t.Errorf("Peek of %+v: %d, error %d", a, v, why)
			}
			if v, why := m.Load(i, a); v != int64(1000+i) || why != api.OK {
				t.Errorf("Load of %+v: %d, error %d", a, v, why)
			}
			if yes, why := m.Swap(i, a, int64(1000+i), int64(-i)); !yes || why != api.OK {
				t.Errorf("Swap of %+v: %v, error %d", a, yes, why)
			}
		}
		for i, a := range addrs {
			if v, _ := m.Peek(a); v != int64(-i) {
				t.Errorf("Peek of %+v behind a swap: %d", a, v)
			}
		}
	}
}

// P3.2: a swap at any old and new word, at its ends too.
func TestSwap(t *testing.T) {
	words := []int64{math.MinInt64, -1, 0, 1, 2, 1 << 32, math.MaxInt64}
	for _, now := range words {
		for _, old := range words {
			for _, v := range words {
				m := made(t, 1, 1)
				m.Store(0, cell(0), now)
				yes, why := m.Swap(5, cell(0), old, v)
				want := now
				if now == old {
					want = v
				}
				if left, _ := m.Peek(cell(0)); yes != (now == old) || why != api.OK || left != want {
					t.Errorf("Swap of %d, %d for %d: %v, error %d, then %d", now, v, old, yes, why, left)
				}
				sameAccesses(t, "Log(1)", m.Log(1), []api.Access{{Thread: 5, Kind: api.AccSwap, Addr: cell(0), Old: old, Value: v, Yes: now == old}})
			}
		}
	}
}

// P3.2: a head word that was never stored to is 1 for loads and swaps.
func TestFirstHead(t *testing.T) {
	m := made(t, 1, 2)
	if v, _ := m.Load(0, head(1)); v != 1 {
		t.Errorf("Load: %d", v)
	}
	if yes, _ := m.Swap(0, head(1), 0, 4); yes {
		t.Error("a head word was swapped for 0")
	}
	if yes, _ := m.Swap(0, head(1), 1, 4); !yes {
		t.Error("a head word was not swapped for 1")
	}
}

// P3.2: whatever thread is, it is in the access.
func TestAnyThread(t *testing.T) {
	for _, thread := range []int{math.MinInt, -1, 0, 1, 8, 1 << 32, math.MaxInt} {
		m := made(t, 1, 1)
		for kind := api.AccLoad; kind <= api.AccSwap; kind++ {
			do(t, m, kind, thread, cell(0), 0, 0)
		}
		for _, access := range m.Log(0) {
			if access.Thread != thread {
				t.Errorf("thread %d: %+v", thread, access)
			}
		}
	}
}

// P3.2: addresses that are none are refused, and nothing has changed.
func TestNoAddress(t *testing.T) {
	for _, size := range [][2]int{{1, 1}, {4, 2}, {20, 3}, {2, 16}, {1024, 16}} {
		m := made(t, size[0], size[1])
		before := someAccesses(t, m, 50)
		words := peekAll(m)
		for _, a := range noAddrs(size[0], size[1]) {
			if v, why := m.Load(1, a); v != 0 || why != api.ErrArg {
				t.Errorf("Load of %+v: %d, error %d", a, v, why)
			}
			if v, why := m.Peek(a); v != 0 || why != api.ErrArg {
				t.Errorf("Peek of %+v: %d, error %d", a, v, why)
			}
			if why := m.Store(1, a, 77); why != api.ErrArg {
				t.Errorf("Store to %+v: error %d", a, why)
			}
			for _, old := range []int64{0, 1} {
				if yes, why := m.Swap(1, a, old, 78); yes || why != api.ErrArg {
					t.Errorf("Swap of %+v: %v, error %d", a, yes, why)
				}
			}
		}
		sameAccesses(t, "Log", m.Log(0), before)
		if m.Count() != len(before) || !slices.Equal(peekAll(m), words) {
			t.Errorf("sizes %v: what is refused has changed something", size)
		}
	}
}

// P3.2: the addresses around each edge are those of the chapter's list, and no others.
func TestWhichAddresses(t *testing.T) {
	m := made(t, 4, 2)
	is := map[api.Addr]bool{}
	for _, a := range allAddrs(4, 2) {
		is[a] = true
	}
	for kind := -2; kind <= 7; kind++ {
		for i := -2; i <= 10; i++ {
			for j := -2; j <= 10; j++ {
				a := api.Addr{Kind: kind, I: i, J: j}
				if _, why := m.Peek(a); (why == api.OK) != is[a] {
					t.Errorf("Peek of %+v: error %d", a, why)
				}
			}
		}
	}
}

// peekAll are all words of a memory, by rising addresses.
func peekAll(m *mem.Mem) []int64 {
	var words []int64
	for _, a := range allAddrs(m.Sizes()) {
		v, _ := m.Peek(a)
		words = append(words, v)
	}
	return words
}

// P3.2: to peek is no access.
func TestPeekIsNoAccess(t *testing.T) {
	m := made(t, 4, 2)
	peekAll(m)
	if m.Count() != 0 || len(m.Log(0)) != 0 || len(m.Touched()) != 0 {
		t.Error("to peek was an access")
	}
	before := someAccesses(t, m, 20)
	peekAll(m)
	sameAccesses(t, "Log", m.Log(0), before)
}

// P3.3: the log from each place on, below the first and above the last too.
func TestLog(t *testing.T) {
	for _, n := range []int{0, 1, 2, 3, 4, 5, 8, 9, 100, 1000} {
		m := made(t, 3, 2)
		want := someAccesses(t, m, n)
		if m.Count() != n {
			t.Errorf("Count: %d, not %d", m.Count(), n)
		}
		for from := range n {
			sameAccesses(t, fmt.Sprintf("%d accesses, Log(%d)", n, from), m.Log(from), want[from:])
		}
		for _, from := range []int{-1, -2, -n, -n - 1, math.MinInt32, math.MinInt} {
			sameAccesses(t, fmt.Sprintf("%d accesses, Log(%d)", n, from), m.Log(from), want)
		}
		for _, from := range []int{n, n + 1, 2*n + 1, math.MaxInt32, math.MaxInt} {
			sameAccesses(t, fmt.Sprintf("%d accesses, Log(%d)", n, from), m.Log(from), nil)
		}
	}
}

// P3.3: Count and the log grow by one with each access.
func TestLogGrows(t *testing.T) {
	m := made(t, 2, 1)
	for n := range 300 {
		want := do(t, m, api.AccLoad+n%3, n, cell(n%2), int64(n-1), int64(n))
		if m.Count() != n+1 {
			t.Errorf("Count: %d, not %d", m.Count(), n+1)
		}
		sameAccesses(t, "the last access", m.Log(n), []api.Access{want})
	}
}

// scribble writes over a list and over all its spare room.
func scribble[E any](list []E, junk E) {
	room := list[:cap(list)]
	for i := range room {
		room[i] = junk
	}
}

// P3.3, with R3: what comes out is new memory, its spare room too, and stays as it was.
func TestLogIsNewMemory(t *testing.T) {
	junk := api.Access{Thread: -9, Kind: 9, Addr: api.Addr{Kind: 9, I: 9, J: 9}, Old: 9, Value: 9, Yes: true}
	for _, n := range []int{1, 2, 3, 5, 7, 50} {
		for from := -1; from <= n+1; from++ {
			m := made(t, 2, 2)
			want := someAccesses(t, m, n)
			first, second := m.Log(from), m.Log(from)
			kept := slices.Clone(second)
			scribble(first, junk)
			sameAccesses(t, "another answer", second, kept)
			sameAccesses(t, "the log", m.Log(0), want)
			want = append(want, someAccesses(t, m, 5)...)
			scribble(second, junk)
			sameAccesses(t, "the log, grown", m.Log(0), want)
			if from <= n {
				third := m.Log(from)
				kept = slices.Clone(third)
				someAccesses(t, m, 100)
				sameAccesses(t, "an older answer", third, kept)
			}
		}
	}
}

// touchesOf are the touches that a log tells: each address is asked for by itself.
func touchesOf(addrs []api.Addr, log []api.Access) []api.Touch {
	var touches []api.Touch
	for _, a := range addrs {
		var counts [4]int
		for _, access := range log {
			if access.Addr == a {
				counts[access.Kind]++
			}
		}
		touch := api.Touch{Addr: a, Loads: counts[api.AccLoad], Stores: counts[api.AccStore], Swaps: counts[api.AccSwap]}
		if touch != (api.Touch{Addr: a}) {
			touches = append(touches, touch)
		}
	}
	return touches
}

// P3.4: of each address that was accessed, and of no other, how often it was.
func TestTouched(t *testing.T) {
	for _, size := range [][2]int{{1, 1}, {4, 2}, {30, 16}} {
		addrs := allAddrs(size[0], size[1])
		for _, n := range []int{0, 1, 2, 3, 10, 100, 2000} {
			m := made(t, size[0], size[1])
			log := someAccesses(t, m, n)
			if got, want := m.Touched(), touchesOf(addrs, log); !slices.Equal(got, want) {
				t.Errorf("sizes %v, %d accesses: %+v, not %+v", size, n, got, want)
			}
		}
	}
}

// P3.4: touched words rise by their Kind, then by I, then by J, in whatever order they were touched.
func TestTouchedRises(t *testing.T) {
	addrs := allAddrs(1024, 16)
	s := strewn(3)
	for range 5 {
		m := made(t, 1024, 16)
		order := slices.Clone(addrs)
		for i := range order {
			j := i + s.below(len(order)-i)
			order[i], order[j] = order[j], order[i]
		}
		for _, a := range order {
			m.Load(0, a)
		}
		var got []api.Addr
		for _, touch := range m.Touched() {
			if touch != (api.Touch{Addr: touch.Addr, Loads: 1}) {
				t.Errorf("%+v", touch)
			}
			got = append(got, touch.Addr)
		}
		if !slices.Equal(got, addrs) {
			t.Errorf("not rising, or not all: %v", got)
		}
	}
}

// P3.4: a swap that does not swap is reckoned too, and what is refused is not.
func TestTouchedEdges(t *testing.T) {
	m := made(t, 2, 2)
	m.Swap(0, sigWord(1, 7), 5, 6)
	m.Store(0, sigWord(1, 8), 6)
	m.Swap(0, newest(), 0, 1)
	m.Load(0, cell(2))
	want := []api.Touch{{Addr: newest(), Swaps: 1}, {Addr: sigWord(1, 7), Swaps: 1}}
	if l := m.Touched(); !slices.Equal(l, want) {
		t.Errorf("Touched: %+v, not %+v", l, want)
	}
}

// P3.4, with R3: what comes out is new memory.
func TestTouchedIsNewMemory(t *testing.T) {
	m := made(t, 4, 2)
	log := someAccesses(t, m, 40)
	want := touchesOf(allAddrs(4, 2), log)
	first, second := m.Touched(), m.Touched()
	scribble(first, api.Touch{Addr: api.Addr{Kind: 9, I: 9, J: 9}, Loads: 9, Stores: 9, Swaps: 9})
	if !slices.Equal(second, want) || !slices.Equal(m.Touched(), want) {
		t.Error("an answer shares its memory")
	}
	sameAccesses(t, "Log", m.Log(0), log)
}

// P3.5: the log tells all words, and what each load and swap found at its place in it.
func TestLogTellsAll(t *testing.T) {
	for _, size := range [][2]int{{1, 1}, {4, 2}, {10, 16}} {
		m := made(t, size[0], size[1])
		addrs := allAddrs(size[0], size[1])
		words := map[api.Addr]int64{}
		for _, a := range addrs {
			words[a] = firstWord(a)
		}
		for range 20 {
			from := m.Count()
			someAccesses(t, m, 100)
			for i, access := range m.Log(from) {
				a := access.Addr
				switch {
				case access.Kind == api.AccLoad && access.Value != words[a]:
					t.Errorf("access %d: %+v, but there is %d", from+i, access, words[a])
				case access.Kind == api.AccSwap && access.Yes != (access.Old == words[a]):
					t.Errorf("access %d: %+v, but there is %d", from+i, access, words[a])
				case access.Kind == api.AccStore || access.Yes:
					words[a] = access.Value
				}
			}
			for _, a := range addrs {
				if v, _ := m.Peek(a); v != words[a] {
					t.Errorf("%+v is %d; the log tells %d", a, v, words[a])
				}
			}
		}
	}
}

// P3.1 to P3.4, with R4: memories know nothing of one another.
func TestMemoriesApart(t *testing.T) {
	m, other := made(t, 4, 2), made(t, 4, 2)
	someAccesses(t, m, 200)
	if other.Count() != 0 || len(other.Log(0)) != 0 || len(other.Touched()) != 0 {
		t.Error("an access to another memory is told")
	}
	for _, a := range allAddrs(4, 2) {
		if v, _ := other.Peek(a); v != firstWord(a) {
			t.Errorf("%+v of another memory is %d", a, v)
		}
	}
}

// P3.1 to P3.4, with R1: of no memory all calls answer that there is nothing.
func TestNoMemory(t *testing.T) {
	var m *mem.Mem
	for _, a := range append(allAddrs(1, 1), noAddrs(1, 1)...) {
		if v, why := m.Load(1, a); v != 0 || why != api.ErrArg {
			t.Errorf("Load: %d, error %d", v, why)
		}
		if v, why := m.Peek(a); v != 0 || why != api.ErrArg {
			t.Errorf("Peek: %d, error %d", v, why)
		}
		if why := m.Store(1, a, 1); why != api.ErrArg {
			t.Errorf("Store: error %d", why)
		}
		if yes, why := m.Swap(1, a, 0, 1); yes || why != api.ErrArg {
			t.Errorf("Swap: %v, error %d", yes, why)
		}
	}
	if c, r := m.Sizes(); c != 0 || r != 0 {
		t.Errorf("Sizes: %d %d", c, r)
	}
	for _, from := range []int{math.MinInt, -1, 0, 1, math.MaxInt} {
		if l := m.Log(from); len(l) != 0 {
			t.Errorf("Log(%d): %v", from, l)
		}
	}
	if m.Count() != 0 || len(m.Touched()) != 0 {
		t.Error("no memory was accessed")
	}
}
