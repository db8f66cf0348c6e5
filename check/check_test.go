package check_test

import (
	"fmt"
	"math"
	"math/big"
	"slices"
	"testing"

	"carousel/api"
	"carousel/check"
	"carousel/mem"
	"carousel/sig"
)

func newest() api.Addr                { return api.Addr{Kind: api.AddrNewest} }
func head(slot int) api.Addr          { return api.Addr{Kind: api.AddrHead, I: slot} }
func sigWord(slot, word int) api.Addr { return api.Addr{Kind: api.AddrSig, I: slot, J: word} }

// The answers that a step has.
func none() api.Answer  { return api.Answer{} }
func waits() api.Answer { return api.Answer{Kind: api.AnsWait, Access: true} }
func moved() api.Answer { return api.Answer{Kind: api.AnsMoved, Access: true} }
func done() api.Answer  { return api.Answer{Kind: api.AnsDone, Access: true} }
func conflict() api.Answer {
	return api.Answer{Kind: api.AnsFailed, Err: api.ErrConflict, Access: true}
}
func overrun() api.Answer {
	return api.Answer{Kind: api.AnsFailed, Err: api.ErrOverrun, Access: true}
}

// given is what a machine is made of.
type given struct {
	size  int
	start int64
	reads api.Sig
	last  bool
}

// made is a machine that must be there.
func made(t *testing.T, g given) *check.Machine {
	t.Helper()
	x, why := check.New(g.size, g.start, g.reads, g.last)
	if x == nil || why != api.OK {
		t.Fatalf("New of %+v: %v, error %d", g, x, why)
	}
	return x
}

// memory is one with a newest stamp, and a head word for each of its slots.
func memory(t *testing.T, newestStamp int64, heads ...int64) *mem.Mem {
	t.Helper()
	m, why := mem.New(2, len(heads))
	if m == nil || why != api.OK {
		t.Fatalf("a memory of %d slots: error %d", len(heads), why)
	}
	store(t, m, newest(), newestStamp)
	for slot, word := range heads {
		store(t, m, head(slot), word)
	}
	return m
}

// store puts a word where it must be possible.
func store(t *testing.T, m *mem.Mem, a api.Addr, v int64) {
	t.Helper()
	if why := m.Store(99, a, v); why != api.OK {
		t.Fatalf("Store to %+v: error %d", a, why)
	}
}

// lay puts a signature into a slot.
func lay(t *testing.T, m *mem.Mem, slot int, s api.Sig) {
	t.Helper()
	for j, word := range s {
		store(t, m, sigWord(slot, j), int64(word))
	}
}

// laid are the head words of a ring in which all stamps above start, up to start and size, are laid; those below a stamp are done, too.
func laid(size int, start, doneBelow int64) []int64 {
	heads := make([]int64, size)
	for i := range int64(size) {
		s := start + 1 + i
		heads[s%int64(size)] = 2 * s
		if s < doneBelow {
			heads[s%int64(size)]++
		}
	}
	return heads
}

// same are so many slots of one word.
func same(size int, word int64) []int64 {
	words := make([]int64, size)
	for i := range words {
		words[i] = word
	}
	return words
}

// full is the signature that has all bits.
func full() api.Sig {
	var s api.Sig
	for j := range s {
		s[j] = math.MaxUint64
	}
	return s
}

// but is a signature with all bits that another hasn't.
func but(s api.Sig) api.Sig {
	for j := range s {
		s[j] = ^s[j]
	}
	return s
}

// strewn gives numbers that are spread out, the same ones each time.
type strewn uint64

func (s *strewn) below(n int) int {
	*s = *s*6364136223846793005 + 1442695040888963407
	return int(uint64(*s>>33) % uint64(n))
}

// someReads are signatures of all kinds: of no bit, of few, of one word, of all.
func (s *strewn) someReads() api.Sig {
	switch s.below(6) {
	case 0:
		return api.Sig{}
	case 1:
		return full()
	}
	return sig.Of(s.below(50), s.below(50), s.below(50))
}

// noSizes are numbers of slots that no ring has.
func noSizes() []int {
	return []int{math.MinInt, math.MinInt32, -1 << 32, -16, -2, -1, 0, 17, 18, 32, 256, 257, 1 << 32, 1<<32 + 1, 1<<32 + 16, math.MaxInt32, math.MaxInt}
}

// told is what a machine told and touched, step by step, and what Start says behind that.
type told struct {
	addrs       []api.Addr
	answers     []api.Answer
	start, seen int64
	through     bool
}

// plain goes the machine's way as P8.2 tells it, by loops, over the words that its loads are to tell one behind the other; it ends where these do.
type plain struct {
	given
	words []int64
	out   told
}

// expected is what a machine tells whose loads told these words.
func expected(g given, words []int64) told {
	p := &plain{given: g, words: words}
	p.goes()
	return p.out
}

// load is the next word; false, if there are no more.
func (p *plain) load(a api.Addr) (int64, bool) {
	if len(p.words) == 0 {
		return 0, false
	}
	word := p.words[0]
	p.words = p.words[1:]
	p.out.addrs = append(p.out.addrs, a)
	return word, true
}

func (p *plain) say(a api.Answer) { p.out.answers = append(p.out.answers, a) }

// ends is through by AnsDone.
func (p *plain) ends(start, seen int64) {
	p.say(done())
	p.out.start, p.out.seen, p.out.through = start, seen, true
}

// far: is a stamp above start by more than size?
func (p *plain) far(stamp int64) bool {
	apart := new(big.Int).Sub(big.NewInt(stamp), big.NewInt(p.start))
	return apart.Cmp(big.NewInt(int64(p.size))) > 0
}

// goes goes the whole way.
func (p *plain) goes() {
	n, ok := p.begins()
	if !ok {
		return
	}
	start := p.start
	for i := range n - p.start {
		s := p.start + 1 + i
		isLaid, isDone := p.finds(s)
		if !isLaid {
			return
		}
		if isDone && start == s-1 {
			start = s
		}
		if !p.holds(s, start, n) {
			return
		}
	}
	again, ok := p.load(newest())
	switch {
	case ok && p.far(again):
		p.say(overrun())
	case ok:
		p.ends(start, n)
	}
}

// begins is its first access; false, if nothing is behind that.
func (p *plain) begins() (int64, bool) {
	n, ok := p.load(newest())
	switch {
	case !ok:
		return 0, false
	case p.reads == api.Sig{} || n <= p.start:
		p.ends(p.start, n)
		return 0, false
	case p.far(n):
		p.say(overrun())
		return 0, false
	}
	p.say(moved())
	return n, true
}

// finds waits for a stamp's head: is it laid, and done?
func (p *plain) finds(s int64) (isLaid, isDone bool) {
	for {
		word, ok := p.load(head(int(s % int64(p.size))))
		stamp := (word - word&1) / 2
		switch {
		case !ok:
			return false, false
		case stamp > s:
			p.say(overrun())
			return false, false
		case stamp == s:
			p.say(moved())
			return true, word&1 == 1
		}
		p.say(waits())
	}
}

// holds looks at the words of a stamp; false, if it goes on no more.
func (p *plain) holds(s, start, seen int64) bool {
	var places []int
	for j, word := range p.reads {
		if word != 0 {
			places = append(places, j)
		}
	}
	for i, j := range places {
		word, ok := p.load(sigWord(int(s%int64(p.size)), j))
		switch {
		case !ok:
			return false
		case uint64(word)&p.reads[j] != 0:
			p.say(conflict())
			return false
		case s == seen && i == len(places)-1 && !p.last:
			p.ends(start, seen)
			return false
		}
		p.say(moved())
	}
	return true
}

// runs makes steps of a machine till it is through, at most so many, ahead of each of which something may be written; it answers what came of them, and what the loads told. Each step must be just one load of its thread, or none at the end.
func runs(t *testing.T, g given, m *mem.Mem, steps int, meanwhile func(step int)) (told, []int64) {
	t.Helper()
	x := made(t, g)
	var got told
	var words []int64
	for i := range steps {
		if start, seen, yes := x.Start(); start != 0 || seen != 0 || yes {
			t.Fatalf("%+v: ahead of step %d: Start %d %d %v", g, i, start, seen, yes)
		}
		if meanwhile != nil {
			meanwhile(i)
		}
		before := m.Count()
		answer := x.Step(m, 3+i)
		log := m.Log(before)
		if len(log) != 1 || log[0].Kind != api.AccLoad || log[0].Thread != 3+i {
			t.Fatalf("%+v: step %d: %+v, with the accesses %+v", g, i, answer, log)
		}
		got.addrs = append(got.addrs, log[0].Addr)
		got.answers = append(got.answers, answer)
		words = append(words, log[0].Value)
		if answer.Kind == api.AnsDone || answer.Kind == api.AnsFailed {
			endsThere(t, x, m)
			break
		}
	}
	got.start, got.seen, got.through = x.Start()
	return got, words
}

// endsThere: a machine that is through makes no access any more.
func endsThere(t *testing.T, x *check.Machine, m *mem.Mem) {
	t.Helper()
	start, seen, yes := x.Start()
	before := m.Count()
	for thread := range 2 {
		if got := x.Step(m, thread); got != none() || m.Count() != before {
			t.Fatalf("behind the end: %+v, %d accesses", got, m.Count()-before)
		}
	}
	if s, n, y := x.Start(); s != start || n != seen || y != yes {
		t.Fatalf("behind the end Start became %d %d %v", s, n, y)
	}
}

// agrees: a machine tells and touches over a memory what the plain way does.
func agrees(t *testing.T, g given, m *mem.Mem, steps int, meanwhile func(step int)) told {
	t.Helper()
	got, words := runs(t, g, m, steps, meanwhile)
	if want := expected(g, words); !alike(got, want) {
		t.Fatalf("%+v, over the words %v:\n%+v\nnot\n%+v", g, words, got, want)
	}
	return got
}

func alike(a, b told) bool {
	return slices.Equal(a.addrs, b.addrs) && slices.Equal(a.answers, b.answers) && a.start == b.start && a.seen == b.seen && a.through == b.through
}

// tells: a machine tells and touches over a memory just this.
func tells(t *testing.T, g given, m *mem.Mem, want told) {
	t.Helper()
	if got, _ := runs(t, g, m, len(want.answers), nil); !alike(got, want) {
		t.Errorf("%+v:\n%+v\nnot\n%+v", g, got, want)
	}
}

// P8.1 to P8.3: the chapter's first example: an entry that isn't laid is waited for.
func TestExampleWaits(t *testing.T) {
	for _, last := range []bool{false, true} {
		for word, start := range map[int64]int64{4: 1, 5: 2} {
			g := given{4, 1, sig.Of(2), last}
			m := memory(t, 2, 1, 3, 0, 1)
			want := told{
				addrs:   []api.Addr{newest(), head(2), head(2), head(2), sigWord(2, 1)},
				answers: []api.Answer{moved(), waits(), waits(), moved(), done()},
				start:   start, seen: 2, through: true,
			}
			if last {
				want.addrs = append(want.addrs, newest())
				want.answers[4] = moved()
				want.answers = append(want.answers, done())
			}
			got, _ := runs(t, g, m, 6, func(step int) {
				if step == 3 {
					store(t, m, head(2), word)
				}
			})
			if !alike(got, want) {
				t.Errorf("last %v, head %d: %+v", last, word, got)
			}
		}
	}
}

// P8.1 to P8.3: the chapter's other examples.
func TestExamples(t *testing.T) {
	m := memory(t, 2, 1, 3, 4, 1)
	store(t, m, sigWord(2, 1), 1<<53)
	for _, last := range []bool{false, true} {
		tells(t, given{4, 1, sig.Of(2), last}, m, told{
			addrs:   []api.Addr{newest(), head(2), sigWord(2, 1)},
			answers: []api.Answer{moved(), moved(), conflict()},
		})
		tells(t, given{4, 1, sig.Of(2), last}, memory(t, 6, 8, 10, 12, 6), told{
			addrs: []api.Addr{newest()}, answers: []api.Answer{overrun()},
		})
		tells(t, given{4, 1, sig.Of(), last}, memory(t, 99, 1, 1, 1, 1), told{
			addrs: []api.Addr{newest()}, answers: []api.Answer{done()},
			start: 1, seen: 99, through: true,
		})
	}
	m = memory(t, 5, laid(4, 1, 0)...)
	got, _ := runs(t, given{4, 1, sig.Of(2), true}, m, 10, func(step int) {
		if step == 9 {
			store(t, m, newest(), 6)
		}
	})
	want := told{
		addrs:   []api.Addr{newest(), head(2), sigWord(2, 1), head(3), sigWord(3, 1), head(0), sigWord(0, 1), head(1), sigWord(1, 1), newest()},
		answers: append(slices.Repeat([]api.Answer{moved()}, 9), overrun()),
	}
	if !alike(got, want) {
		t.Errorf("the ring has gone round: %+v", got)
	}
}

// P8.1: every size and start that may be; a new machine made no access, and isn't through.
func TestNew(t *testing.T) {
	for size := 1; size <= 16; size++ {
		for _, start := range []int64{0, 1, 2, 16, 17, 1 << 31, 1 << 32, 1 << 40, 1 << 62, math.MaxInt64} {
			for _, last := range []bool{false, true} {
				for _, reads := range []api.Sig{{}, sig.Of(1), full()} {
					tells(t, given{size, start, reads, last}, memory(t, start, same(size, 1)...), told{
						addrs: []api.Addr{newest()}, answers: []api.Answer{done()},
						start: start, seen: start, through: true,
					})
				}
			}
		}
	}
}

// P8.1: sizes that no ring has, and starts below 0.
func TestNewRefuses(t *testing.T) {
	refused := func(size int, start int64) {
		for _, last := range []bool{false, true} {
			for _, reads := range []api.Sig{{}, sig.Of(1), full()} {
				if x, why := check.New(size, start, reads, last); x != nil || why != api.ErrArg {
					t.Errorf("New(%d, %d): %v, error %d", size, start, x, why)
				}
			}
		}
	}
	below := []int64{-1, -2, -16, -17, math.MinInt32, -1 << 32, -1 << 62, math.MinInt64 + 1, math.MinInt64}
	for _, size := range noSizes() {
		for _, start := range append([]int64{0, 1, 5, math.MaxInt64}, below...) {
			refused(size, start)
		}
	}
	for size := 1; size <= 16; size++ {
		for _, start := range below {
			refused(size, start)
		}
	}
}

// P8.2, P8.3: every small ring, with every small stamp, start and head word.
func TestSmallRings(t *testing.T) {
	for size := 1; size <= 2; size++ {
		heads := same(size, -2)
		for {
			for stamp := int64(-1); stamp <= 5; stamp++ {
				for start := range int64(4) {
					for _, reads := range []api.Sig{{}, sig.Of(2), sig.Of(0, 2)} {
						m := memory(t, stamp, heads...)
						agrees(t, given{size, start, reads, start%2 == 0}, m, 9, nil)
						agrees(t, given{size, start, reads, start%2 == 1}, m, 9, nil)
					}
				}
			}
			if !count(heads, -2, 11) {
				break
			}
		}
	}
}

// count makes of digits from low to high the next number; false, behind the last.
func count(digits []int64, low, high int64) bool {
	for i := range digits {
		if digits[i] < high {
			digits[i]++
			return true
		}
		digits[i] = low
	}
	return false
}

// P8.2, P8.3: rings of every size, with stamps of every size, mostly laid, some of them done, some of another stamp, whose signatures have few bits or many.
func TestAllRings(t *testing.T) {
	seed := strewn(1)
	ends := map[api.Answer]int{}
	for size := 1; size <= 16; size++ {
		for _, middle := range []int64{0, 3, 1000, 1 << 31, 1 << 32, 1 << 40, 1<<62 - 100} {
			for range 60 {
				g := given{size, middle + int64(seed.below(20)), seed.someReads(), seed.below(2) == 0}
				stamp := g.start + int64(seed.below(size+1))
				m := memory(t, stamp, laid(size, g.start, g.start+int64(seed.below(20)))...)
				lay(t, m, seed.below(size), sig.Of(seed.below(50), seed.below(50), seed.below(50)))
				if seed.below(4) == 0 {
					store(t, m, head(seed.below(size)), 2*(g.start+int64(seed.below(40))-20))
				}
				got := agrees(t, g, m, 2+9*size, nil)
				ends[got.answers[len(got.answers)-1]]++
			}
		}
	}
	for _, answer := range []api.Answer{done(), conflict(), overrun(), waits()} {
		if ends[answer] < 100 {
			t.Errorf("just %d ended with %+v", ends[answer], answer)
		}
	}
}

// P8.2: what comes of the first access: the newest stamp at or below the start ends it, one above it by more than the size fails, and what lies between goes on; as whole numbers (R6).
func TestFirstAccess(t *testing.T) {
	for size := 1; size <= 16; size++ {
		s := int64(size)
		for _, c := range []struct {
			start, stamp int64
			want         api.Answer
		}{
			{0, math.MinInt64, done()}, {0, -1, done()}, {0, 0, done()}, {0, 1, moved()}, {0, s, moved()}, {0, s + 1, overrun()}, {0, math.MaxInt64, overrun()},
			{7, math.MinInt64, done()}, {7, 6, done()}, {7, 7, done()}, {7, 8, moved()}, {7, 7 + s, moved()}, {7, 8 + s, overrun()}, {7, math.MaxInt64, overrun()},
			{1 << 40, math.MinInt64, done()}, {1 << 40, 1<<40 + s, moved()}, {1 << 40, 1<<40 + s + 1, overrun()}, {1 << 40, 1<<40 + 1<<32, overrun()},
			{math.MaxInt64 - s - 1, math.MaxInt64 - 1, moved()}, {math.MaxInt64 - s - 1, math.MaxInt64, overrun()}, {math.MaxInt64 - s, math.MaxInt64, moved()},
			{math.MaxInt64 - 1, math.MaxInt64, moved()}, {math.MaxInt64, math.MaxInt64, done()}, {math.MaxInt64, 0, done()}, {math.MaxInt64, math.MinInt64, done()}, {math.MaxInt64, math.MinInt64 + 3, done()},
		} {
			for _, last := range []bool{false, true} {
				want := told{addrs: []api.Addr{newest()}, answers: []api.Answer{c.want}}
				if c.want == done() {
					want.start, want.seen, want.through = c.start, c.stamp, true
				}
				tells(t, given{size, c.start, sig.Of(5), last}, memory(t, c.stamp, same(size, 1)...), want)
			}
		}
	}
}

// P8.2: whoever read nothing is through at once, whatever the newest stamp is.
func TestNothingRead(t *testing.T) {
	for _, stamp := range []int64{math.MinInt64, -1, 0, 1, 2, 3, 4, 6, 7, 99, 1 << 40, math.MaxInt64} {
		for _, start := range []int64{0, 2, math.MaxInt64} {
			for _, last := range []bool{false, true} {
				m := memory(t, stamp, 0, -1, math.MaxInt64, 1)
				lay(t, m, 3, full())
				tells(t, given{4, start, api.Sig{}, last}, m, told{
					addrs: []api.Addr{newest()}, answers: []api.Answer{done()},
					start: start, seen: stamp, through: true,
				})
			}
		}
	}
}

// P8.2: a head with a stamp below the one that is looked for is waited for, whatever it is, and whether it is done; one above it is an overrun; the very one moves on.
func TestHeads(t *testing.T) {
	for _, s := range []int64{1, 2, 3, 100, 1 << 40, 1<<62 - 2} {
		for _, c := range []struct {
			head int64
			want api.Answer
		}{
			{math.MinInt64, waits()}, {-1, waits()}, {0, waits()}, {1, waits()}, {2*s - 9, waits()}, {2*s - 2, waits()}, {2*s - 1, waits()},
			{2 * s, moved()}, {2*s + 1, moved()},
			{2*s + 2, overrun()}, {2*s + 3, overrun()}, {math.MaxInt64, overrun()},
		} {
			slot := int(s % 3)
			want := told{
				addrs:   []api.Addr{newest(), head(slot), head(slot)},
				answers: []api.Answer{moved(), c.want, c.want},
			}
			switch c.want {
			case overrun():
				want.addrs, want.answers = want.addrs[:2], want.answers[:2]
			case moved():
				want.addrs[2] = sigWord(slot, 0)
			}
			tells(t, given{3, s - 1, sig.Of(0, 2), true}, withHead(t, s, c.head), want)
		}
	}
}

// withHead is a memory of three slots, with a newest stamp, whose slot has a head word.
func withHead(t *testing.T, stamp, word int64) *mem.Mem {
	t.Helper()
	m := memory(t, stamp, same(3, 1)...)
	store(t, m, head(int(stamp%3)), word)
	return m
}

// P8.2: stamps that a head word hasn't room for, as a stamp of it is at most 2^62 - 1: they are waited for.
func TestGreatStamps(t *testing.T) {
	for _, s := range []int64{1 << 62, 1<<62 + 1, math.MaxInt64 - 1, math.MaxInt64} {
		for _, word := range []int64{math.MinInt64, math.MaxInt64, -2, s << 1, s<<1 + 1} {
			slot := int(s % 3)
			tells(t, given{3, s - 1, full(), false}, withHead(t, s, word), told{
				addrs:   []api.Addr{newest(), head(slot), head(slot), head(slot)},
				answers: []api.Answer{moved(), waits(), waits(), waits()},
			})
		}
	}
}

// P8.2: it waits as long as it must, and goes on where it stood; each wait is an access.
func TestLongWait(t *testing.T) {
	for _, s := range []int64{1, 2, 3} {
		m := memory(t, 3, laid(4, 0, 2)...)
		store(t, m, head(int(s)), 1)
		ended := agrees(t, given{4, 0, sig.Of(2), true}, m, 2000, func(step int) {
			if step == 1000 {
				store(t, m, head(int(s)), 2*s+1)
			}
			if step == 500 {
				store(t, m, newest(), 90) // it looks no more at that till the end
			}
			if step == 900 {
				store(t, m, newest(), 4)
			}
		})
		if waited := len(ended.answers) - 8; !ended.through || waited != 1000-int(2*s-1) {
			t.Errorf("stamp %d: %d waits, through %v", s, waited, ended.through)
		}
	}
}

// P8.2: just the words at which reads has a bit are loaded, rising, whichever these are.
func TestWhichWords(t *testing.T) {
	for set := 1; set < 256; set++ {
		var reads api.Sig
		var places []int
		for j := range reads {
			if set>>j&1 == 1 {
				reads[j] = 1 << (7*j + set%8)
				places = append(places, j)
			}
		}
		m := memory(t, 2, laid(2, 0, 2)...)
		lay(t, m, 0, but(reads))
		lay(t, m, 1, but(reads))
		want := told{addrs: []api.Addr{newest()}, start: 1, seen: 2, through: true}
		for _, slot := range []int{1, 0} {
			want.addrs = append(want.addrs, head(slot))
			for _, j := range places {
				want.addrs = append(want.addrs, sigWord(slot, j))
			}
		}
		want.answers = append(slices.Repeat([]api.Answer{moved()}, len(want.addrs)-1), done())
		tells(t, given{2, 0, reads, false}, m, want)
		want.addrs = append(want.addrs, newest())
		want.answers = append(slices.Repeat([]api.Answer{moved()}, len(want.addrs)-1), done())
		tells(t, given{2, 0, reads, true}, m, want)
	}
}

// P8.2: each single bit that reads and an entry share is a conflict, told by the word in which it stands; of all other bits none is.
func TestEachBit(t *testing.T) {
	for bit := range 512 {
		var one api.Sig
		one[bit/64] = 1 << (bit % 64)
		apart := memory(t, 1, laid(1, 0, 0)...)
		lay(t, apart, 0, but(one))
		shared := memory(t, 1, laid(1, 0, 0)...)
		lay(t, shared, 0, one)
		for _, last := range []bool{false, true} {
			if got := agrees(t, given{1, 0, one, last}, apart, 4, nil); !got.through {
				t.Fatalf("bit %d, not shared: %+v", bit, got)
			}
			got := agrees(t, given{1, 0, full(), last}, shared, 12, nil)
			if got.through || len(got.answers) != 3+bit/64 || got.answers[2+bit/64] != conflict() {
				t.Fatalf("bit %d, shared: %+v", bit, got)
			}
		}
	}
}

// P8.2: a conflict is found at every stamp from behind the start up to the newest one, and at no other slot.
func TestEachStamp(t *testing.T) {
	for size := 1; size <= 16; size++ {
		for _, start := range []int64{0, 5, 1 << 40} {
			for up := int64(1); up <= int64(size); up++ {
				for at := int64(1); at <= int64(size); at++ {
					m := memory(t, start+up, laid(size, start, 0)...)
					lay(t, m, int((start+at)%int64(size)), sig.Of(2))
					got := agrees(t, given{size, start, sig.Of(2), at%2 == 0}, m, 40, nil)
					if got.through != (at > up) {
						t.Fatalf("size %d, start %d, newest %d above it, conflict %d above it: %+v", size, start, up, at, got)
					}
				}
			}
		}
	}
}

// P8.2: with last the newest stamp is loaded again: above the start by more than the size it is an overrun (R6: as whole numbers), else the end; SEEN stays what was seen at first.
func TestLast(t *testing.T) {
	for size := 1; size <= 16; size++ {
		s := int64(size)
		for _, start := range []int64{0, 1, 7, 1 << 40, 1<<62 - 20} {
			for _, c := range []struct {
				again int64
				want  api.Answer
			}{
				{math.MinInt64, done()}, {math.MinInt64 + start/2, done()}, {-1, done()}, {0, done()}, {start - 1, done()}, {start, done()}, {start + 1, done()}, {start + s, done()},
				{start + s + 1, overrun()}, {start + s + 2, overrun()}, {math.MaxInt64, overrun()},
			} {
				m := memory(t, start+1, laid(size, start, start+2)...)
				got := agrees(t, given{size, start, sig.Of(2), true}, m, 9, func(step int) {
					if step == 3 {
						store(t, m, newest(), c.again)
					}
				})
				if len(got.answers) != 4 || got.answers[3] != c.want || got.through != (c.want == done()) {
					t.Fatalf("size %d, start %d, again %d: %+v", size, start, c.again, got)
				}
				if got.through && (got.start != start+1 || got.seen != start+1) {
					t.Fatalf("size %d, start %d, again %d: Start %d %d", size, start, c.again, got.start, got.seen)
				}
			}
		}
	}
}

// P8.2: without last the newest stamp isn't loaded again, wherever it went.
func TestWithoutLast(t *testing.T) {
	m := memory(t, 5, laid(4, 1, 0)...)
	got := agrees(t, given{4, 1, sig.Of(2), false}, m, 20, func(step int) { store(t, m, newest(), 5+int64(step)*90) })
	if !got.through || len(got.answers) != 9 || got.start != 1 || got.seen != 5 {
		t.Errorf("%+v", got)
	}
}

// P8.2: START is where the done heads, from behind the start on, end: of every set of entries that are done.
func TestStartIsDoneUpTo(t *testing.T) {
	for set := range 64 {
		m := memory(t, 13, laid(6, 7, 0)...)
		want := int64(7)
		for i := range int64(6) {
			if set>>i&1 == 1 {
				store(t, m, head(int((8+i)%6)), 2*(8+i)+1)
				if want == 7+i {
					want++
				}
			}
		}
		for _, last := range []bool{false, true} {
			got := agrees(t, given{6, 7, sig.Of(2), last}, m, 20, nil)
			if !got.through || got.start != want || got.seen != 13 {
				t.Errorf("done %06b, last %v: Start %d %d %v, not %d", set, last, got.start, got.seen, got.through, want)
			}
		}
	}
}

// P8.2: a head is taken as it stood when it was loaded: what gets done behind that, or was another stamp's done ahead of it, doesn't count.
func TestDoneWhenLoaded(t *testing.T) {
	m := memory(t, 3, 1, 3, 3, 1)
	got := agrees(t, given{4, 1, sig.Of(2), true}, m, 20, func(step int) {
		switch step {
		case 3: // it waits for 2, whose slot's head said 1, done
			store(t, m, head(2), 4)
		case 4: // too late
			store(t, m, head(2), 5)
			store(t, m, head(3), 7)
		}
	})
	if !got.through || got.start != 1 || got.seen != 3 {
		t.Errorf("too late: %+v", got)
	}
	m = memory(t, 3, 1, 3, 4, 6)
	got = agrees(t, given{4, 1, sig.Of(2), true}, m, 20, func(step int) {
		switch step {
		case 1: // just in time
			store(t, m, head(2), 5)
		case 2:
			store(t, m, head(2), 4)
		case 3:
			store(t, m, head(3), 7)
		}
	})
	if !got.through || got.start != 3 || got.seen != 3 {
		t.Errorf("in time: %+v", got)
	}
}

// P8.2: each word is taken as it stands at its access: what was shared ahead of it, or is behind it, is no conflict.
func TestWordsWhenLoaded(t *testing.T) {
	m := memory(t, 1, laid(1, 0, 0)...)
	got := agrees(t, given{1, 0, full(), true}, m, 20, func(step int) {
		for j := range 8 {
			word := int64(-1)
			if step == 2+j {
				word = 0
			}
			store(t, m, sigWord(0, j), word)
		}
	})
	if !got.through || len(got.answers) != 11 {
		t.Errorf("%+v", got)
	}
}

// P8.2: once a stamp was found laid, its head is looked at no more, though another takes the slot.
func TestTakenBehind(t *testing.T) {
	m := memory(t, 1, laid(2, 0, 0)...)
	got := agrees(t, given{2, 0, sig.Of(0, 2), false}, m, 20, func(step int) {
		if step == 2 {
			store(t, m, head(1), 6)
		}
	})
	if !got.through || got.start != 0 || got.seen != 1 {
		t.Errorf("%+v", got)
	}
}

// P8.2, P8.3: behind its end, by which answer ever, it makes no access, and tells the same, whatever is written.
func TestThrough(t *testing.T) {
	for name, c := range map[string]struct {
		m    *mem.Mem
		want [3]any
	}{
		"done":        {memory(t, 2, 1, 3, 5, 1), [3]any{int64(2), int64(2), true}},
		"overrun":     {memory(t, 9, 1, 3, 5, 1), [3]any{int64(0), int64(0), false}},
		"gone":        {memory(t, 2, 1, 3, 7, 1), [3]any{int64(0), int64(0), false}},
		"conflicting": {conflicting(t), [3]any{int64(0), int64(0), false}},
	} {
		x := made(t, given{4, 1, sig.Of(2), true})
		for range 4 {
			x.Step(c.m, 0)
		}
		for i := range 20 {
			store(t, c.m, newest(), int64(i))
			store(t, c.m, head(i%4), int64(4*i))
			before := c.m.Count()
			if got := x.Step(c.m, i); got != none() || c.m.Count() != before {
				t.Errorf("%s: step %d behind the end: %+v", name, i, got)
			}
			start, seen, yes := x.Start()
			if got := [3]any{start, seen, yes}; got != c.want {
				t.Errorf("%s: Start behind the end: %v", name, got)
			}
		}
	}
}

// conflicting is a memory in which the entry 2 writes the cell 2.
func conflicting(t *testing.T) *mem.Mem {
	t.Helper()
	m := memory(t, 2, 1, 3, 4, 1)
	lay(t, m, 2, sig.Of(2))
	return m
}

// P8.2, R1: a nil memory, and one with another number of slots, is none, in every state; and the machine goes on behind that as if nothing had been.
func TestOtherMemories(t *testing.T) {
	for size := 1; size <= 16; size++ {
		m := memory(t, 40+int64(size), laid(size, 40, 42)...)
		x := made(t, given{size, 40, full(), true})
		for i := range 4 + 9*size {
			if i < 30 || i > 9*size-2 {
				refuses(t, x, size)
			}
			x.Step(m, 5)
		}
		if start, seen, yes := x.Start(); start != 41 || seen != 40+int64(size) || !yes {
			t.Errorf("size %d: Start %d %d %v", size, start, seen, yes)
		}
	}
}

// refuses: a machine of a size makes nothing of memories of others.
func refuses(t *testing.T, x *check.Machine, size int) {
	t.Helper()
	start, seen, yes := x.Start()
	if got := x.Step(nil, 5); got != none() {
		t.Errorf("a nil memory: %+v", got)
	}
	for slots := 1; slots <= 16; slots++ {
		if slots == size {
			continue
		}
		other, _ := mem.New(1, slots)
		if got := x.Step(other, 5); got != none() || other.Count() != 0 {
			t.Errorf("size %d over %d slots: %+v, %d accesses", size, slots, got, other.Count())
		}
	}
	if s, n, y := x.Start(); s != start || n != seen || y != yes {
		t.Errorf("Start became %d %d %v", s, n, y)
	}
}

// P8.2: also a machine that waits, or has failed, makes nothing of another memory.
func TestOtherMemoriesWaitingAndFailed(t *testing.T) {
	waiting := memory(t, 2, 1, 3, 0, 1)
	x := made(t, given{4, 1, sig.Of(2), true})
	for range 5 {
		refuses(t, x, 4)
		x.Step(waiting, 5)
	}
	if got := x.Step(waiting, 5); got != waits() {
		t.Errorf("it waits no more: %+v", got)
	}
	x = made(t, given{4, 1, sig.Of(2), true})
	for range 5 {
		refuses(t, x, 4)
		x.Step(conflicting(t), 5)
	}
}

// R1: a nil machine.
func TestNilMachine(t *testing.T) {
	var x *check.Machine
	m := memory(t, 2, 1, 3, 0, 1)
	before := m.Count()
	if got := x.Step(m, 0); got != none() || m.Count() != before {
		t.Errorf("Step: %+v", got)
	}
	if got := x.Step(nil, 0); got != none() {
		t.Errorf("Step over a nil memory: %+v", got)
	}
	if start, seen, yes := x.Start(); start != 0 || seen != 0 || yes {
		t.Errorf("Start: %d %d %v", start, seen, yes)
	}
}

// P8.2: whatever the thread is, also one that may not be, it is in the access, and nothing else hangs on it.
func TestThreads(t *testing.T) {
	for _, thread := range []int{math.MinInt, -1 << 32, -1, 0, 7, 8, 9, 1 << 32, math.MaxInt} {
		m := memory(t, 2, 1, 3, 5, 1)
		before := m.Count()
		x := made(t, given{4, 1, sig.Of(2), true})
		for _, want := range []api.Answer{moved(), moved(), moved(), done(), none()} {
			if got := x.Step(m, thread); got != want {
				t.Errorf("thread %d: %+v", thread, got)
			}
		}
		want := []api.Access{
			{Thread: thread, Kind: api.AccLoad, Addr: newest(), Value: 2},
			{Thread: thread, Kind: api.AccLoad, Addr: head(2), Value: 5},
			{Thread: thread, Kind: api.AccLoad, Addr: sigWord(2, 1)},
			{Thread: thread, Kind: api.AccLoad, Addr: newest(), Value: 2},
		}
		if got := m.Log(before); !slices.Equal(got, want) {
			t.Errorf("thread %d: %+v", thread, got)
		}
	}
}

// R4: of two memories of one size each access is one of that which is handed in.
func TestTwoMemories(t *testing.T) {
	one := memory(t, 3, 1, 1, 1, 6)
	two := conflicting(t)
	x := made(t, given{4, 1, sig.Of(2), true})
	for i, s := range []struct {
		m    *mem.Mem
		want api.Answer
	}{{one, moved()}, {one, waits()}, {two, moved()}, {one, moved()}, {two, waits()}, {one, moved()}, {two, moved()}, {two, done()}, {one, none()}, {two, none()}} {
		before := s.m.Count()
		if got := x.Step(s.m, 0); got != s.want || (s.m.Count() == before+1) != s.want.Access {
			t.Errorf("step %d: %+v", i, got)
		}
	}
	if start, seen, yes := x.Start(); start != 1 || seen != 3 || !yes {
		t.Errorf("Start %d %d %v", start, seen, yes)
	}
}

// R4: machines beside each other, over one memory, of which each goes its own way.
func TestMachinesApart(t *testing.T) {
	seed := strewn(2)
	for range 300 {
		size := 1 + seed.below(5)
		m := memory(t, int64(seed.below(size+4)), laid(size, 1, int64(seed.below(9)))...)
		lay(t, m, seed.below(size), sig.Of(seed.below(6), seed.below(6)))
		var ways []*way
		for range 4 {
			g := given{size, int64(seed.below(4)), sig.Of(seed.below(6), seed.below(6)), seed.below(2) == 0}
			ways = append(ways, &way{given: g, machine: made(t, g)})
		}
		for range 80 {
			ways[seed.below(len(ways))].step(m)
		}
		for i, w := range ways {
			w.got.start, w.got.seen, w.got.through = w.machine.Start()
			if want := expected(w.given, w.words); !alike(w.got, want) {
				t.Fatalf("machine %d of %+v:\n%+v\nnot\n%+v", i, w.given, w.got, want)
			}
		}
	}
}

// way is a machine beside others, and what came of it so far.
type way struct {
	given
	machine *check.Machine
	got     told
	words   []int64
}

// step makes a step, and notes what came of it, unless it is nothing.
func (w *way) step(m *mem.Mem) {
	before := m.Count()
	answer := w.machine.Step(m, 0)
	for _, access := range m.Log(before) {
		w.got.addrs = append(w.got.addrs, access.Addr)
		w.words = append(w.words, access.Value)
	}
	if answer != none() {
		w.got.answers = append(w.got.answers, answer)
	}
}

// R3: what is handed in isn't kept: the caller's signature may change behind New.
func TestReadsNotKept(t *testing.T) {
	reads := sig.Of(2)
	x, _ := check.New(4, 1, reads, true)
	reads = full()
	m := memory(t, 2, 1, 3, 5, 1)
	lay(t, m, 2, but(sig.Of(2)))
	for _, want := range []api.Answer{moved(), moved(), moved(), done()} {
		if got := x.Step(m, 0); got != want {
			t.Errorf("%+v, not %+v; reads are %v", got, want, reads)
		}
	}
}

// P8.4: with all bits read, a whole ring looked at, and last, it makes just 2 + size x 9 accesses; nothing makes it more.
func TestLongest(t *testing.T) {
	for size := 1; size <= 16; size++ {
		for _, start := range []int64{0, 9, 1 << 40} {
			m := memory(t, start+int64(size), laid(size, start, start+int64(size)+1)...)
			got := agrees(t, given{size, start, full(), true}, m, 200, nil)
			if len(got.answers) != 2+9*size || !got.through || got.start != start+int64(size) {
				t.Errorf("size %d, start %d: %d accesses, %d %v", size, start, len(got.answers), got.start, got.through)
			}
		}
	}
}

// P8.2 to P8.4: whatever others write meanwhile it does what its chapter tells, and beside the waits it makes at most 2 + size x 9 accesses; what it tells has its reason in the word that it loaded last.
func TestOthersWrite(t *testing.T) {
	seed := strewn(3)
	ends := map[api.Answer]int{}
	for round := range 8000 {
		size := 1 + round%16
		g := given{size, int64(seed.below(6)), seed.someReads(), seed.below(2) == 0}
		m := memory(t, g.start+int64(seed.below(size+1)), laid(size, g.start, g.start+3)...)
		before := m.Count()
		got := agrees(t, g, m, 300, func(int) {
			if seed.below(8) == 0 {
				scribble(t, m, &seed, g)
			}
		})
		acted := len(got.answers)
		for _, answer := range got.answers {
			if answer == waits() {
				acted--
			}
		}
		if acted > 2+9*size {
			t.Fatalf("%+v: %d accesses", g, acted)
		}
		ends[got.answers[len(got.answers)-1]]++
		hasReason(t, g, m.Log(before), got)
	}
	for _, answer := range []api.Answer{done(), conflict(), overrun()} {
		if ends[answer] < 100 {
			t.Errorf("just %d ended with %+v", ends[answer], answer)
		}
	}
}

// scribble writes a word into the ring, mostly such as an entry has.
func scribble(t *testing.T, m *mem.Mem, seed *strewn, g given) {
	t.Helper()
	s := g.start + 1 + int64(seed.below(g.size))
	slot := int(s % int64(g.size))
	switch seed.below(8) {
	case 0:
		store(t, m, newest(), g.start+int64(seed.below(g.size+3))-1)
	case 1:
		store(t, m, sigWord(slot, seed.below(8)), 1<<seed.below(64))
	case 2:
		store(t, m, head(slot), 2*s-int64(seed.below(5)))
	case 3:
		store(t, m, head(slot), 2*(s+int64(seed.below(2)*g.size)))
	default:
		store(t, m, head(slot), 2*s+int64(seed.below(2)))
	}
}

// hasReason: a conflict is told of a word of the ring's that shares a bit with reads; an overrun of a newest stamp too far above the start, or of a slot's head that is above the stamp.
func hasReason(t *testing.T, g given, log []api.Access, got told) {
	t.Helper()
	loads := slices.DeleteFunc(log, func(a api.Access) bool { return a.Kind != api.AccLoad })
	last := loads[len(loads)-1]
	reason := true
	switch got.answers[len(got.answers)-1] {
	case conflict():
		reason = last.Addr.Kind == api.AddrSig && uint64(last.Value)&g.reads[last.Addr.J] != 0
	case overrun():
		isFar := last.Addr.Kind == api.AddrNewest && last.Value > g.start+int64(g.size)
		isGone := last.Addr.Kind == api.AddrHead && last.Value>>1 > g.start
		reason = isFar || isGone
	}
	if !reason {
		t.Fatalf("%+v: %+v by %+v", g, got.answers[len(got.answers)-1], last)
	}
}

// R4: the same calls get the same answers.
func TestSameAgain(t *testing.T) {
	run := func() string {
		seed := strewn(6)
		said := ""
		for range 50 {
			g := given{1 + seed.below(16), int64(seed.below(9)), seed.someReads(), seed.below(2) == 0}
			m := memory(t, g.start+int64(seed.below(g.size+1)), laid(g.size, g.start, g.start+2)...)
			x := made(t, g)
			for range 40 {
				scribble(t, m, &seed, g)
				said += fmt.Sprint(x.Step(m, seed.below(9)))
			}
			start, seen, yes := x.Start()
			said += fmt.Sprint(start, seen, yes, m.Log(0))
		}
		return said
	}
	if run() != run() {
		t.Error("two runs differ")
	}
}
