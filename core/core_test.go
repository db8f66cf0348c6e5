package core_test

import (
	"math"
	"slices"
	"testing"

	"carousel/api"
	"carousel/core"
	"carousel/mem"
	"carousel/shift"
	"carousel/sig"
)

// The phases, as the chapter numbers them.
const (
	none       = 0
	beginning  = 1
	live       = 2
	reading    = 3
	committing = 4
	published  = 5
)

func newest() api.Addr                { return api.Addr{Kind: api.AddrNewest} }
func head(slot int) api.Addr          { return api.Addr{Kind: api.AddrHead, I: slot} }
func sigWord(slot, word int) api.Addr { return api.Addr{Kind: api.AddrSig, I: slot, J: word} }
func cellAt(cell int) api.Addr        { return api.Addr{Kind: api.AddrCell, I: cell} }

// What may be wanted.
func wantBegin() api.Want              { return api.Want{Kind: api.WantBegin} }
func wantRead(cell int) api.Want       { return api.Want{Kind: api.WantRead, Cell: cell} }
func wantCommit() api.Want             { return api.Want{Kind: api.WantCommit} }
func wantAbort(why api.Errno) api.Want { return api.Want{Kind: api.WantAbort, Code: int(why)} }
func wantWrite(cell int, v int64) api.Want {
	return api.Want{Kind: api.WantWrite, Cell: cell, Value: v}
}

// The answers of an access.
func waits() api.Answer         { return api.Answer{Kind: api.AnsWait, Access: true} }
func moved() api.Answer         { return api.Answer{Kind: api.AnsMoved, Access: true} }
func doneBy(v int64) api.Answer { return api.Answer{Kind: api.AnsDone, Value: v, Access: true} }
func failedBy(why api.Errno) api.Answer {
	return api.Answer{Kind: api.AnsFailed, Err: why, Access: true}
}

// The answers without one.
func nothing() api.Answer             { return api.Answer{} }
func done(v int64) api.Answer         { return api.Answer{Kind: api.AnsDone, Value: v} }
func failed(why api.Errno) api.Answer { return api.Answer{Kind: api.AnsFailed, Err: why} }

// The events.
func opened() api.Event { return api.Event{Kind: api.EvOpened} }
func begun(start, seen int64) api.Event {
	return api.Event{Kind: api.EvBegun, Start: start, Seen: seen}
}
func read(cell int, v, start, seen int64) api.Event {
	return api.Event{Kind: api.EvRead, Cell: cell, Value: v, Start: start, Seen: seen}
}
func readOwn(cell int, v, start, seen int64) api.Event {
	return api.Event{Kind: api.EvRead, Cell: cell, Value: v, Own: true, Start: start, Seen: seen}
}
func wrote(cell int, v int64) api.Event {
	return api.Event{Kind: api.EvWrote, Cell: cell, Value: v}
}
func publishedAs(stamp int64, cells ...int) api.Event {
	return api.Event{Kind: api.EvPublished, Stamp: stamp, Sig: sig.Of(cells...)}
}
func complete(stamp int64) api.Event { return api.Event{Kind: api.EvComplete, Stamp: stamp} }
func ended(why api.Errno, start, seen int64, cells ...int) api.Event {
	return api.Event{Kind: api.EvEnded, Err: why, Start: start, Seen: seen, Sig: sig.Of(cells...)}
}

// The accesses, but for their thread.
func load(a api.Addr, v int64) api.Access {
	return api.Access{Kind: api.AccLoad, Addr: a, Value: v}
}
func put(a api.Addr, v int64) api.Access {
	return api.Access{Kind: api.AccStore, Addr: a, Value: v}
}
func swap(old, v int64, yes bool) api.Access {
	return api.Access{Kind: api.AccSwap, Addr: newest(), Old: old, Value: v, Yes: yes}
}

// config is one of some slots, two writes and nine stamps.
func config(slots int, multi bool) api.Config {
	return api.Config{Ring: slots, Writes: 2, Stamps: 9, Multi: multi}
}

// made is a transaction that must be there.
func made(t *testing.T, c api.Config) *core.Tx {
	t.Helper()
	x, why := core.New(c)
	if x == nil || why != api.OK {
		t.Fatalf("New of %+v: %v, error %d", c, x, why)
	}
	return x
}

// memory is a new one of so many cells and slots.
func memory(t *testing.T, cells, slots int) *mem.Mem {
	t.Helper()
	m, why := mem.New(cells, slots)
	if m == nil || why != api.OK {
		t.Fatalf("a memory of %d cells and %d slots: error %d", cells, slots, why)
	}
	return m
}

// store puts a word where it must be possible.
func store(t *testing.T, m *mem.Mem, a api.Addr, v int64) {
	t.Helper()
	if why := m.Store(99, a, v); why != api.OK {
		t.Fatalf("Store to %+v: error %d", a, why)
	}
}

// peek is a word that must be there.
func peek(t *testing.T, m *mem.Mem, a api.Addr) int64 {
	t.Helper()
	word, why := m.Peek(a)
	if why != api.OK {
		t.Fatalf("Peek at %+v: error %d", a, why)
	}
	return word
}

// enter puts an entry of some cells into a ring, laid and, perhaps, done; it is the newest one.
func enter(t *testing.T, m *mem.Mem, stamp int64, isDone bool, cells ...int) {
	t.Helper()
	_, slots := m.Sizes()
	slot := int(stamp % int64(slots))
	for j, word := range sig.Of(cells...) {
		store(t, m, sigWord(slot, j), int64(word))
	}
	store(t, m, head(slot), shift.Head(stamp, isDone))
	store(t, m, newest(), stamp)
}

// look is all that a transaction tells of itself.
type look struct {
	phase       int
	start, seen int64
	reads       api.Sig
	writes      []api.Write
	told        []api.Event
}

func lookAt(x *core.Tx) look { return lookFrom(x, 0) }

// lookFrom leaves out the events ahead of a number.
func lookFrom(x *core.Tx, from int) look {
	start, seen := x.Start()
	return look{x.Phase(), start, seen, x.Reads(), x.Writes(), x.Told(from)}
}

// same: a list without elements may be nil or not.
func (l look) same(o look) bool {
	return l.phase == o.phase && l.start == o.start && l.seen == o.seen && l.reads == o.reads &&
		slices.Equal(l.writes, o.writes) && slices.Equal(l.told, o.told)
}

// unchanged: a transaction tells the same as ahead.
func unchanged(t *testing.T, x *core.Tx, before look) {
	t.Helper()
	if now := lookAt(x); !now.same(before) {
		t.Fatalf("it was %+v, and is %+v", before, now)
	}
}

// life is a transaction over a memory; each of its calls is made by another thread.
type life struct {
	t      *testing.T
	x      *core.Tx
	m      *mem.Mem
	thread int
	heard  int // how many events were looked at
}

func newLife(t *testing.T, c api.Config, m *mem.Mem) *life {
	t.Helper()
	return &life{t: t, x: made(t, c), m: m}
}

// answers: a call is answered so, by these accesses.
func (l *life) answers(call func() api.Answer, want api.Answer, accesses ...api.Access) {
	l.t.Helper()
	l.thread++
	for i := range accesses {
		accesses[i].Thread = l.thread
	}
	before := l.m.Count()
	got := call()
	if log := l.m.Log(before); got != want || !slices.Equal(log, accesses) {
		l.t.Fatalf("%+v by %+v, not %+v by %+v", got, log, want, accesses)
	}
}

func (l *life) do(w api.Want, want api.Answer, accesses ...api.Access) {
	l.t.Helper()
	l.answers(func() api.Answer { return l.x.Do(l.m, l.thread, w) }, want, accesses...)
}

func (l *life) step(want api.Answer, accesses ...api.Access) {
	l.t.Helper()
	l.answers(func() api.Answer { return l.x.Step(l.m, l.thread) }, want, accesses...)
}

// stands: it is in a phase, and tells these of itself.
func (l *life) stands(phase int, start, seen int64, reads api.Sig, writes ...api.Write) {
	l.t.Helper()
	got := lookAt(l.x)
	if !got.same(look{phase, start, seen, reads, writes, got.told}) {
		l.t.Fatalf("%+v, not phase %d, %d %d, %s, %v", got, phase, start, seen, sig.Text(reads), writes)
	}
}

// tells: since the last time it told these events.
func (l *life) tells(events ...api.Event) {
	l.t.Helper()
	if got := l.x.Told(l.heard); !slices.Equal(got, events) {
		l.t.Fatalf("told %+v, not %+v", got, events)
	}
	l.heard += len(events)
}

// idle: nothing is under way, so a step does nothing.
func (l *life) idle() {
	l.t.Helper()
	before := lookAt(l.x)
	l.step(nothing())
	unchanged(l.t, l.x, before)
}

// begins takes it over a memory without entries.
func (l *life) begins() {
	l.t.Helper()
	l.do(wantBegin(), doneBy(0), load(newest(), 0))
	l.tells(opened(), begun(0, 0))
	l.stands(live, 0, 0, sig.Of())
}

// lays are the Stores by which an entry is laid.
func lays(slot int, stamp int64, cells ...int) []api.Access {
	var list []api.Access
	for j, word := range sig.Of(cells...) {
		list = append(list, put(sigWord(slot, j), int64(word)))
	}
	return append(list, put(head(slot), 2*stamp))
}

// P12.1 to P12.4: the chapter's first example, access by access.
func TestExampleWhole(t *testing.T) {
	l := newLife(t, config(4, false), memory(t, 4, 4))
	l.stands(none, 0, 0, sig.Of())
	l.begins()
	l.do(wantRead(3), moved(), load(cellAt(3), 0))
	l.stands(reading, 0, 0, sig.Of(3))
	l.tells()
	l.step(doneBy(0), load(newest(), 0))
	l.stands(live, 0, 0, sig.Of(3))
	l.tells(read(3, 0, 0, 0))
	l.do(wantWrite(3, 7), done(0))
	l.tells(wrote(3, 7))
	writes := api.Write{Cell: 3, Value: 7}
	l.stands(live, 0, 0, sig.Of(3), writes)
	l.do(wantRead(3), done(7))
	l.tells(readOwn(3, 7, 0, 0))
	l.stands(live, 0, 0, sig.Of(3), writes)
	l.do(wantCommit(), moved(), load(newest(), 0))
	l.stands(committing, 0, 0, sig.Of(3), writes)
	l.tells()
	l.step(moved(), swap(0, 1, true))
	l.stands(published, 0, 0, sig.Of(3), writes)
	l.tells(publishedAs(1, 3))
	for _, access := range append(lays(1, 1, 3), put(cellAt(3), 7)) {
		l.step(moved(), access)
		l.stands(published, 0, 0, sig.Of(3), writes)
	}
	l.tells()
	l.step(doneBy(0), put(head(1), 3))
	l.stands(none, 0, 0, sig.Of())
	l.tells(complete(1))
	l.idle()
	if l.heard != 7 {
		t.Errorf("%d events", l.heard)
	}
}

// P12.2: the chapter's second example: nothing is written.
func TestExampleNothingWritten(t *testing.T) {
	l := newLife(t, config(4, false), memory(t, 4, 4))
	l.begins()
	l.do(wantCommit(), done(0))
	l.tells(ended(api.OK, 0, 0))
	l.stands(none, 0, 0, sig.Of())
	l.idle()
}

// P12.2: the chapter's third example: too much is written; and nothing can be read when there is no transaction.
func TestExampleTooBig(t *testing.T) {
	l := newLife(t, config(4, false), memory(t, 4, 4))
	l.begins()
	l.do(wantWrite(0, 5), done(0))
	l.do(wantWrite(1, 6), done(0))
	l.tells(wrote(0, 5), wrote(1, 6))
	l.do(wantWrite(2, 7), failed(api.ErrTooBig))
	l.tells(ended(api.ErrTooBig, 0, 0))
	l.stands(none, 0, 0, sig.Of())
	l.do(wantRead(0), failed(api.ErrArg))
	l.tells()
	l.stands(none, 0, 0, sig.Of())
}

// P12.1: every ring, every number of writes, stamps from end to end: one in the phase NONE, without events, that can begin.
func TestNew(t *testing.T) {
	for slots := 1; slots <= 16; slots++ {
		for writes := 1; writes <= 24; writes++ {
			for _, stamps := range []int64{1, 2, 9, 1 << 31, 1 << 32, 1<<40 - 1, 1 << 40} {
				for _, multi := range []bool{false, true} {
					l := newLife(t, api.Config{Ring: slots, Writes: writes, Stamps: stamps, Multi: multi}, memory(t, 1, slots))
					l.stands(none, 0, 0, sig.Of())
					l.tells()
					l.idle()
					l.begins()
				}
			}
		}
	}
}

// P12.1: nothing else of the configuration is looked at, written into or kept.
func TestNewLooksAtNothingElse(t *testing.T) {
	for _, raw := range []int{math.MinInt, -1, 0, 65, math.MaxInt} {
		regions := []api.Region{{Kind: 9, Cap: -1}, {Kind: -3, Cap: 1 << 40}, {Kind: 1, Cap: 2}}
		handed := slices.Clone(regions)
		c := api.Config{Raw: raw, Ring: 4, Writes: 2, Stamps: 9, Tries: raw, Regions: regions[:2]}
		l := newLife(t, c, memory(t, 4, 4))
		if !slices.Equal(regions, handed) {
			t.Errorf("what was handed in became %+v", regions)
		}
		c.Ring, c.Writes, c.Stamps, c.Multi = 1, 1, 1, true
		regions[0] = api.Region{}
		l.begins()
		l.do(wantWrite(1, 1), done(0))
		l.do(wantWrite(2, 2), done(0))
		l.do(wantCommit(), moved(), load(newest(), 0))
		l.step(moved(), swap(0, 1, true))
	}
}

// P12.1: rings, numbers of writes and of stamps that no configuration has, alone and together.
func TestNewRefuses(t *testing.T) {
	refused := func(slots, writes int, stamps int64) {
		t.Helper()
		for _, multi := range []bool{false, true} {
			c := api.Config{Raw: 1, Ring: slots, Writes: writes, Stamps: stamps, Multi: multi, Tries: 1}
			if x, why := core.New(c); x != nil || why != api.ErrArg {
				t.Errorf("New of %+v: %v, error %d", c, x, why)
			}
		}
	}
	noRings := []int{math.MinInt, math.MinInt32, -1 << 32, -16, -1, 0, 17, 18, 32, 256 + 4, 1<<32 + 4, math.MaxInt32, math.MaxInt}
	noWrites := []int{math.MinInt, math.MinInt32, -1 << 32, -24, -1, 0, 25, 26, 48, 256 + 4, 1<<32 + 4, math.MaxInt32, math.MaxInt}
	noStamps := []int64{math.MinInt64, -1 << 40, -1 << 32, -9, -1, 0, 1<<40 + 1, 1 << 41, 1 << 62, math.MaxInt64}
	for _, slots := range noRings {
		refused(slots, 4, 9)
		for _, writes := range noWrites {
			refused(slots, writes, 9)
			for _, stamps := range noStamps {
				refused(slots, writes, stamps)
				refused(4, writes, stamps)
				refused(slots, 4, stamps)
			}
		}
	}
	for _, writes := range noWrites {
		refused(4, writes, 9)
	}
	for _, stamps := range noStamps {
		refused(4, 4, stamps)
	}
}

// P12.2, P12.3: it begins behind entries that aren't complete: as long as it does, it has no start.
func TestBegin(t *testing.T) {
	l := newLife(t, config(4, true), memory(t, 4, 4))
	enter(t, l.m, 1, true, 0)
	enter(t, l.m, 2, false, 1)
	enter(t, l.m, 3, false, 2)
	l.do(wantBegin(), moved(), load(newest(), 3))
	l.tells(opened())
	l.stands(beginning, 0, 0, sig.Of())
	l.step(moved(), load(head(3), 6))
	l.step(moved(), load(head(2), 4))
	l.stands(beginning, 0, 0, sig.Of())
	l.tells()
	l.step(doneBy(0), load(head(1), 3))
	l.tells(begun(1, 3))
	l.stands(live, 1, 3, sig.Of())
	l.idle()
}

// P12.2: what it writes itself it reads without an access, and that is no read of the cell; each value that it wrote last.
func TestReadOwn(t *testing.T) {
	l := newLife(t, config(4, false), memory(t, 4, 4))
	enter(t, l.m, 1, true, 0)
	enter(t, l.m, 2, false, 3)
	l.do(wantBegin(), moved(), load(newest(), 2))
	l.step(moved(), load(head(2), 4))
	l.step(doneBy(0), load(head(1), 3))
	l.tells(opened(), begun(1, 2))
	for _, v := range []int64{0, -1, math.MaxInt64, math.MinInt64, 5} {
		l.do(wantWrite(2, v), done(0))
		l.do(wantRead(2), done(v))
		l.tells(wrote(2, v), readOwn(2, v, 1, 2))
		l.stands(live, 1, 2, sig.Of(), api.Write{Cell: 2, Value: v})
		l.idle()
	}
	store(t, l.m, cellAt(1), 17)
	l.do(wantRead(1), moved(), load(cellAt(1), 17))
	l.stands(reading, 1, 2, sig.Of(1), api.Write{Cell: 2, Value: 5})
}

// P12.3: a read goes on from where the entries that it looked at are complete.
func TestReadMovesTheStart(t *testing.T) {
	l := newLife(t, config(4, true), memory(t, 4, 4))
	l.begins()
	store(t, l.m, cellAt(3), -8)
	enter(t, l.m, 1, true, 0)
	enter(t, l.m, 2, false, 1)
	l.do(wantRead(3), moved(), load(cellAt(3), -8))
	l.step(moved(), load(newest(), 2))
	l.step(moved(), load(head(1), 3))
	l.step(moved(), load(sigWord(1, 0), 1))
	l.step(moved(), load(head(2), 4))
	l.step(moved(), load(sigWord(2, 0), 0))
	l.tells()
	l.stands(reading, 0, 0, sig.Of(3))
	l.step(doneBy(-8), load(newest(), 2))
	l.tells(read(3, -8, 1, 2))
	l.stands(live, 1, 2, sig.Of(3))
	// From the new start on.
	l.do(wantRead(2), moved(), load(cellAt(2), 0))
	l.stands(reading, 1, 2, sig.Of(3, 2))
	l.step(moved(), load(newest(), 2))
	store(t, l.m, head(2), 5)
	l.step(moved(), load(head(2), 5))
	l.step(moved(), load(sigWord(2, 0), 0))
	l.step(moved(), load(sigWord(2, 1), 0))
	l.step(doneBy(0), load(newest(), 2))
	l.tells(read(2, 0, 2, 2))
	l.stands(live, 2, 2, sig.Of(2, 3))
	l.idle()
}

// P12.3, P12.5: a read waits for an entry that isn't laid, and nothing changes meanwhile.
func TestReadWaits(t *testing.T) {
	l := newLife(t, config(4, true), memory(t, 4, 4))
	l.begins()
	store(t, l.m, newest(), 1)
	l.do(wantRead(3), moved(), load(cellAt(3), 0))
	l.step(moved(), load(newest(), 1))
	before := lookAt(l.x)
	for range 5 {
		l.step(waits(), load(head(1), 1))
		unchanged(t, l.x, before)
	}
	enter(t, l.m, 1, false, 2)
	l.step(moved(), load(head(1), 2))
	l.step(moved(), load(sigWord(1, 0), 0))
	l.step(doneBy(0), load(newest(), 1))
	l.tells(read(3, 0, 0, 1))
	l.stands(live, 0, 1, sig.Of(3))
}

// P12.3: a read ends by a conflict or an overrun: the end tells the start as it was, and the cell that was being read, too.
func TestReadEnds(t *testing.T) {
	l := newLife(t, config(4, true), memory(t, 4, 4))
	enter(t, l.m, 1, true, 0)
	enter(t, l.m, 2, false, 1)
	for _, again := range []int64{0, 1} {
		l.do(wantBegin(), moved(), load(newest(), 2+again))
		for l.x.Phase() == beginning {
			l.x.Step(l.m, 1)
		}
		l.tells(opened(), begun(1, 2+again))
		l.do(wantWrite(0, 9), done(0))
		l.tells(wrote(0, 9))
		enter(t, l.m, 3, false, 3)
		l.do(wantRead(3), moved(), load(cellAt(3), 0))
		l.step(moved(), load(newest(), 3))
		l.step(moved(), load(head(2), 4))
		l.step(moved(), load(sigWord(2, 0), 0))
		l.step(moved(), load(head(3), 6))
		l.stands(reading, 1, 2+again, sig.Of(3), api.Write{Cell: 0, Value: 9})
		l.step(failedBy(api.ErrConflict), load(sigWord(3, 0), 1<<22))
		l.tells(ended(api.ErrConflict, 1, 2+again, 3))
		l.stands(none, 0, 0, sig.Of())
		l.idle()
	}
	l.do(wantBegin(), moved(), load(newest(), 3))
	for l.x.Phase() == beginning {
		l.x.Step(l.m, 1)
	}
	l.tells(opened(), begun(1, 3))
	l.do(wantRead(2), moved(), load(cellAt(2), 0))
	store(t, l.m, newest(), 6)
	l.step(failedBy(api.ErrOverrun), load(newest(), 6))
	l.tells(ended(api.ErrOverrun, 1, 3, 2))
	l.stands(none, 0, 0, sig.Of())
	l.idle()
}

// P12.2: of every number of writes: the cells stand in the order in which they came first, with their last values; a cell more ends it, one that is there doesn't.
func TestWrites(t *testing.T) {
	for most := 1; most <= 24; most++ {
		c := config(3, most%2 == 0)
		c.Writes = most
		l := newLife(t, c, memory(t, 1024, 3))
		l.begins()
		l.do(wantRead(1000), moved(), load(cellAt(1000), 0))
		l.step(doneBy(0), load(newest(), 0))
		l.tells(read(1000, 0, 0, 0))
		var want []api.Write
		for i := range most {
			cell := 1023 - 37*i
			l.do(wantWrite(cell, int64(i)), done(0))
			want = append(want, api.Write{Cell: cell, Value: int64(i)})
			l.tells(wrote(cell, int64(i)))
			l.stands(live, 0, 0, sig.Of(1000), want...)
		}
		for i := range want {
			want[i].Value = int64(-100 - i)
			l.do(wantWrite(want[i].Cell, want[i].Value), done(0))
			l.tells(wrote(want[i].Cell, want[i].Value))
			l.stands(live, 0, 0, sig.Of(1000), want...)
			l.idle()
		}
		l.do(wantWrite(1000, 5), failed(api.ErrTooBig))
		l.tells(ended(api.ErrTooBig, 0, 0, 1000))
		l.stands(none, 0, 0, sig.Of())
		l.idle()
		if peek(t, l.m, newest()) != 0 {
			t.Error("something was published")
		}
	}
}

// P12.2: one that only read ends with OK, however far the ring has gone meanwhile, without an access.
func TestCommitOfReads(t *testing.T) {
	l := newLife(t, config(4, false), memory(t, 4, 4))
	l.begins()
	l.do(wantRead(0), moved(), load(cellAt(0), 0))
	l.step(doneBy(0), load(newest(), 0))
	l.do(wantRead(1), moved(), load(cellAt(1), 0))
	l.step(doneBy(0), load(newest(), 0))
	l.tells(read(0, 0, 0, 0), read(1, 0, 0, 0))
	for stamp := int64(1); stamp < 8; stamp++ {
		enter(t, l.m, stamp, true, 0, 1)
	}
	l.do(wantCommit(), done(0))
	l.tells(ended(api.OK, 0, 0, 0, 1))
	l.stands(none, 0, 0, sig.Of())
	l.idle()
}

// P12.2: its own abort, and that of a bad program, with what it read and writes.
func TestAbort(t *testing.T) {
	for _, why := range []api.Errno{api.ErrOwn, api.ErrBadProgram} {
		l := newLife(t, config(4, false), memory(t, 4, 4))
		l.begins()
		l.do(wantAbort(why), failed(why))
		l.tells(ended(why, 0, 0))
		l.stands(none, 0, 0, sig.Of())
		l.idle()
		enter(t, l.m, 1, true, 0)
		l.do(wantBegin(), moved(), load(newest(), 1))
		l.step(doneBy(0), load(head(1), 3))
		l.do(wantRead(2), moved(), load(cellAt(2), 0))
		l.step(doneBy(0), load(newest(), 1))
		l.do(wantWrite(3, 4), done(0))
		l.tells(opened(), begun(1, 1), read(2, 0, 1, 1), wrote(3, 4))
		l.do(wantAbort(why), failed(why))
		l.tells(ended(why, 1, 1, 2))
		l.stands(none, 0, 0, sig.Of())
		l.idle()
		if peek(t, l.m, newest()) != 1 || peek(t, l.m, cellAt(3)) != 0 {
			t.Error("something was published")
		}
	}
}

// P12.3, P12.5: without Multi a commit waits for the newest entry, its start stays, and when others were faster it goes on.
func TestCommitWaits(t *testing.T) {
	l := newLife(t, config(4, false), memory(t, 4, 4))
	l.begins()
	l.do(wantWrite(2, 8), done(0))
	l.do(wantWrite(0, 9), done(0))
	l.tells(wrote(2, 8), wrote(0, 9))
	writes := []api.Write{{Cell: 2, Value: 8}, {Cell: 0, Value: 9}}
	enter(t, l.m, 1, true, 1)
	enter(t, l.m, 2, false, 1)
	l.do(wantCommit(), moved(), load(newest(), 2))
	before := lookAt(l.x)
	for range 5 {
		l.step(waits(), load(head(2), 4))
		unchanged(t, l.x, before)
	}
	store(t, l.m, head(2), 5)
	l.step(moved(), load(head(2), 5))
	enter(t, l.m, 3, true, 1)
	l.step(moved(), swap(2, 3, false))
	l.stands(committing, 0, 0, sig.Of(), writes...)
	l.tells()
	l.step(moved(), load(newest(), 3))
	l.step(moved(), load(head(3), 7))
	l.step(moved(), swap(3, 4, true))
	l.stands(published, 0, 0, sig.Of(), writes...)
	l.tells(publishedAs(4, 0, 2))
	for _, access := range append(lays(0, 4, 0, 2), put(cellAt(2), 8), put(cellAt(0), 9)) {
		l.step(moved(), access)
	}
	l.stands(published, 0, 0, sig.Of(), writes...)
	l.tells()
	l.step(doneBy(0), put(head(0), 9))
	l.tells(complete(4))
	l.stands(none, 0, 0, sig.Of())
	l.idle()
}

// P12.3: a commit ends by a conflict, an overrun, or because no stamp is left, also by its very first access; nothing is published then.
func TestCommitEnds(t *testing.T) {
	for _, why := range []api.Errno{api.ErrConflict, api.ErrOverrun, api.ErrStampsSpent} {
		l := newLife(t, config(4, true), memory(t, 4, 4))
		l.begins()
		if why != api.ErrStampsSpent {
			l.do(wantRead(1), moved(), load(cellAt(1), 0))
			l.step(doneBy(0), load(newest(), 0))
			l.tells(read(1, 0, 0, 0))
		}
		l.do(wantWrite(3, 4), done(0))
		l.tells(wrote(3, 4))
		switch why {
		case api.ErrConflict:
			enter(t, l.m, 1, true, 1)
			l.do(wantCommit(), moved(), load(newest(), 1))
			l.step(moved(), load(head(1), 3))
			l.stands(committing, 0, 0, sig.Of(1), api.Write{Cell: 3, Value: 4})
			l.step(failedBy(why), load(sigWord(1, 5), 1<<(360%64)))
			l.tells(ended(why, 0, 0, 1))
		case api.ErrOverrun:
			store(t, l.m, newest(), 5)
			l.do(wantCommit(), failedBy(why), load(newest(), 5))
			l.tells(ended(why, 0, 0, 1))
		default:
			store(t, l.m, newest(), 9)
			l.do(wantCommit(), failedBy(why), load(newest(), 9))
			l.tells(ended(why, 0, 0))
		}
		l.stands(none, 0, 0, sig.Of())
		l.idle()
	}
}

// P12.3, P12.5: with Multi what is published waits for older entries: ahead of its cells, if they share a bit, and else ahead of its end.
func TestPublishedWaits(t *testing.T) {
	for _, shared := range []bool{false, true} {
		l := newLife(t, config(4, true), memory(t, 4, 4))
		l.begins()
		l.do(wantWrite(2, 8), done(0))
		l.tells(wrote(2, 8))
		cell, word := 0, int64(0)
		if shared {
			cell, word = 2, 1<<53
		}
		enter(t, l.m, 1, false, cell)
		l.do(wantCommit(), moved(), load(newest(), 1))
		l.step(moved(), load(head(2), 1))
		l.step(moved(), swap(1, 2, true))
		l.tells(publishedAs(2, 2))
		for _, access := range append(lays(2, 2, 2), load(head(1), 2), load(sigWord(1, 1), word)) {
			l.step(moved(), access)
		}
		if !shared {
			l.step(moved(), put(cellAt(2), 8))
		}
		before := lookAt(l.x)
		for range 5 {
			l.step(waits(), load(head(1), 2))
			unchanged(t, l.x, before)
		}
		l.stands(published, 0, 0, sig.Of(), api.Write{Cell: 2, Value: 8})
		store(t, l.m, head(1), 3)
		l.step(moved(), load(head(1), 3))
		if shared {
			l.step(moved(), put(cellAt(2), 8))
		}
		l.tells()
		l.step(doneBy(0), put(head(2), 5))
		l.tells(complete(2))
		l.stands(none, 0, 0, sig.Of())
		l.idle()
	}
}

// P12.4: one transaction behind the other: each begins anew, and all that was told stays.
func TestAgain(t *testing.T) {
	l := newLife(t, config(4, false), memory(t, 4, 4))
	l.begins()
	l.do(wantRead(0), moved(), load(cellAt(0), 0))
	l.step(doneBy(0), load(newest(), 0))
	l.do(wantWrite(1, 1), done(0))
	l.do(wantWrite(2, 2), done(0))
	l.do(wantWrite(3, 3), failed(api.ErrTooBig))
	l.tells(read(0, 0, 0, 0), wrote(1, 1), wrote(2, 2), ended(api.ErrTooBig, 0, 0, 0))
	for stamp := int64(1); stamp < 9; stamp++ {
		l.x.Do(l.m, 1, wantBegin())
		for l.x.Phase() == beginning {
			l.x.Step(l.m, 1)
		}
		l.tells(opened(), begun(stamp-1, stamp-1))
		l.stands(live, stamp-1, stamp-1, sig.Of())
		l.do(wantRead(1), moved(), load(cellAt(1), 10*(stamp-1)))
		l.step(doneBy(10*(stamp-1)), load(newest(), stamp-1))
		l.do(wantWrite(1, 10*stamp), done(0))
		l.do(wantWrite(3, stamp), done(0))
		l.tells(read(1, 10*(stamp-1), stamp-1, stamp-1), wrote(1, 10*stamp), wrote(3, stamp))
		l.x.Do(l.m, 1, wantCommit())
		for l.x.Phase() != none {
			l.x.Step(l.m, 1)
		}
		l.tells(publishedAs(stamp, 1, 3), complete(stamp))
		l.stands(none, 0, 0, sig.Of())
	}
	if all := l.x.Told(-1); len(all) != l.heard || all[0] != opened() || all[5] != ended(api.ErrTooBig, 0, 0, 0) {
		t.Errorf("%+v", all)
	}
}
