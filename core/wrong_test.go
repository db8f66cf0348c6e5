package core_test

import (
	"math"
	"slices"
	"testing"

	"carousel/api"
	"carousel/core"
	"carousel/mem"
	"carousel/sig"
)

// inPhase is a transaction over ten cells and four slots that stands in a phase; the cell 9 is read and written.
func inPhase(t *testing.T, phase int) *life {
	t.Helper()
	l := newLife(t, config(4, true), memory(t, 10, 4))
	enter(t, l.m, 1, true, 0)
	if phase == none {
		return l
	}
	l.do(wantBegin(), moved(), load(newest(), 1))
	if phase == beginning {
		return l
	}
	l.step(doneBy(0), load(head(1), 3))
	if phase == live {
		return l
	}
	l.do(wantRead(9), moved(), load(cellAt(9), 0))
	if phase == reading {
		return l
	}
	l.step(doneBy(0), load(newest(), 1))
	l.do(wantWrite(2, -2), done(0))
	l.do(wantWrite(9, -9), done(0))
	l.do(wantCommit(), moved(), load(newest(), 1))
	if phase == committing {
		return l
	}
	l.step(moved(), load(head(2), 1))
	l.step(moved(), swap(1, 2, true))
	return l
}

// wentOn is what comes of the steps that are left, and of a commit behind them.
func wentOn(l *life) ([]api.Answer, look, []api.Access) {
	var said []api.Answer
	for range 30 {
		said = append(said, l.x.Step(l.m, 5))
	}
	said = append(said, l.x.Do(l.m, 5, wantCommit()))
	return said, lookAt(l.x), l.m.Log(0)
}

// asIfNothingHadBeen: it goes on as one that stands in the same phase and was asked nothing else.
func asIfNothingHadBeen(t *testing.T, l *life, phase int) {
	t.Helper()
	said, end, log := wentOn(l)
	wantSaid, wantEnd, wantLog := wentOn(inPhase(t, phase))
	if !slices.Equal(said, wantSaid) || !slices.Equal(end.told, wantEnd.told) || !slices.Equal(log, wantLog) {
		t.Errorf("phase %d: %+v, not %+v", phase, said, wantSaid)
	}
}

// refuses: Do is answered by ErrArg, without an access, and nothing has changed.
func refuses(t *testing.T, l *life, m *mem.Mem, w api.Want) {
	t.Helper()
	before, accesses, others := lookAt(l.x), l.m.Count(), m.Count()
	if got := l.x.Do(m, 5, w); got != failed(api.ErrArg) {
		t.Errorf("phase %d, %+v: %+v", before.phase, w, got)
	}
	if l.m.Count() != accesses || m.Count() != others {
		t.Errorf("phase %d, %+v: an access", before.phase, w)
	}
	unchanged(t, l.x, before)
}

// asked are what may be wanted, and what may not.
func asked() (good, bad []api.Want) {
	good = []api.Want{wantBegin(), wantRead(0), wantRead(9), wantWrite(0, 5), wantWrite(9, 5), wantCommit(), wantAbort(api.ErrOwn), wantAbort(api.ErrBadProgram)}
	for _, kind := range []int{math.MinInt, -1 << 32, -5, -1, 0, 6, 7, 8, 256 + 1, 256 + 4, 1<<32 + 1, 1<<32 + 4, math.MaxInt} {
		bad = append(bad, api.Want{Kind: kind}, api.Want{Kind: kind, Cell: 1, Value: 1, Code: 8})
	}
	for _, cell := range []int{math.MinInt, -1 << 32, -10, -1, 10, 11, 1023, 1024, 1 << 32, 1<<32 + 1, math.MaxInt} {
		bad = append(bad, wantRead(cell), wantWrite(cell, 5))
	}
	for code := -20; code < 40; code++ {
		if code != 7 && code != 8 {
			bad = append(bad, wantAbort(api.Errno(code)))
		}
	}
	for _, code := range []int{math.MinInt, 256 + 8, 1<<32 + 7, 1<<32 + 8, math.MaxInt} {
		bad = append(bad, wantAbort(api.Errno(code)))
	}
	return good, bad
}

// P12.2: in each phase what that doesn't take is refused, and what may never be wanted.
func TestDoRefuses(t *testing.T) {
	good, bad := asked()
	for phase := none; phase <= published; phase++ {
		l := inPhase(t, phase)
		l.stands(phase, l.start(), l.start(), l.x.Reads(), l.x.Writes()...)
		for _, w := range bad {
			refuses(t, l, l.m, w)
		}
		for _, w := range good {
			first := w.Kind == api.WantBegin
			if first && phase != none || !first && phase != live {
				refuses(t, l, l.m, w)
			}
		}
		asIfNothingHadBeen(t, l, phase)
	}
}

// start is where the transactions of inPhase start.
func (l *life) start() int64 {
	if l.x.Phase() <= beginning {
		return 0
	}
	return 1
}

// P12.2: what a phase takes is taken there; other fields of what is wanted are not looked at.
func TestDoTakes(t *testing.T) {
	good, _ := asked()
	for _, w := range good {
		phase := live
		if w.Kind == api.WantBegin {
			phase = none
		}
		l := inPhase(t, phase)
		if got := l.x.Do(l.m, 5, w); got.Err == api.ErrArg || got.Kind == api.AnsNone {
			t.Errorf("%+v: %+v", w, got)
		}
		other := w
		if w.Kind != api.WantRead && w.Kind != api.WantWrite {
			other.Cell = -1
		}
		if w.Kind != api.WantWrite {
			other.Value = 77
		}
		if w.Kind != api.WantAbort {
			other.Code = -7
		}
		like := inPhase(t, phase)
		like.x.Do(like.m, 5, other)
		if !slices.Equal(l.x.Told(0), like.x.Told(0)) || !slices.Equal(l.m.Log(0), like.m.Log(0)) {
			t.Errorf("%+v: %+v", other, like.x.Told(0))
		}
	}
}

// P12.2, P12.3, R1: no memory, and those with another number of slots, in every phase.
func TestOtherMemories(t *testing.T) {
	good, _ := asked()
	for phase := none; phase <= published; phase++ {
		l := inPhase(t, phase)
		before := lookAt(l.x)
		others := []*mem.Mem{nil, new(mem.Mem)}
		for slots := 1; slots <= 16; slots++ {
			if slots != 4 {
				others = append(others, memory(t, 10, slots))
			}
		}
		for _, m := range others {
			for _, w := range good {
				refuses(t, l, m, w)
			}
			accesses := m.Count()
			if got := l.x.Step(m, 5); got != nothing() || m.Count() != accesses {
				t.Errorf("phase %d: %+v", phase, got)
			}
			unchanged(t, l.x, before)
		}
		asIfNothingHadBeen(t, l, phase)
	}
}

// P12.3: a memory without the cell that is being read, and without one of those that are written back; the one that has just these does.
func TestCellsThatAreNeeded(t *testing.T) {
	for _, phase := range []int{reading, published} {
		// In the one phase there is one step left, in the other one twelve.
		for steps := range 12 {
			l := inPhase(t, phase)
			for range steps {
				l.x.Step(l.m, 5)
			}
			before := lookAt(l.x)
			for cells := 1; cells < 10; cells++ {
				m := memory(t, cells, 4)
				if got := l.x.Step(m, 5); got != nothing() || m.Count() != 0 {
					t.Errorf("phase %d, %d cells: %+v", phase, cells, got)
				}
				unchanged(t, l.x, before)
			}
			if phase == reading {
				break
			}
			if got := l.x.Step(memory(t, 10, 4), 5); got == nothing() {
				t.Errorf("phase %d, behind %d steps: %+v", phase, steps, got)
			}
		}
		l := inPhase(t, phase)
		for cells := 1; cells < 10; cells++ {
			l.x.Step(memory(t, cells, 4), 5)
		}
		asIfNothingHadBeen(t, l, phase)
	}
}

// P12.2: which cells there are hangs on the memory that is handed in with what is wanted.
func TestCellsOfTheMemory(t *testing.T) {
	for _, cells := range []int{1, 2, 10, 1023, 1024} {
		l := newLife(t, config(4, false), memory(t, cells, 4))
		l.begins()
		refuses(t, l, l.m, wantRead(cells))
		refuses(t, l, l.m, wantWrite(cells, 1))
		l.do(wantRead(cells-1), moved(), load(cellAt(cells-1), 0))
		l.step(doneBy(0), load(newest(), 0))
		l.do(wantWrite(cells-1, 3), done(0))
		// What it writes itself is no cell of a memory that lacks it, either.
		if cells > 1 {
			refuses(t, l, memory(t, cells-1, 4), wantRead(cells-1))
			refuses(t, l, memory(t, cells-1, 4), wantWrite(cells-1, 4))
		}
		l.tells(read(cells-1, 0, 0, 0), wrote(cells-1, 3))
	}
}

// R1: a nil transaction, and one that New didn't make.
func TestNoTransaction(t *testing.T) {
	good, bad := asked()
	for _, x := range []*core.Tx{nil, new(core.Tx)} {
		m := memory(t, 10, 4)
		for _, over := range []*mem.Mem{m, nil, new(mem.Mem)} {
			if over != nil && over != m && x != nil {
				continue
			}
			for _, w := range append(good, bad...) {
				if got := x.Do(over, 0, w); got != failed(api.ErrArg) {
					t.Errorf("Do of %+v: %+v", w, got)
				}
			}
			if got := x.Step(over, 0); got != nothing() {
				t.Errorf("Step: %+v", got)
			}
		}
		start, seen := x.Start()
		if x.Phase() != none || start != 0 || seen != 0 || x.Reads() != sig.Of() || len(x.Writes()) != 0 {
			t.Errorf("phase %d, %d %d, %v, %v", x.Phase(), start, seen, x.Reads(), x.Writes())
		}
		for _, from := range []int{math.MinInt, -1, 0, 1, math.MaxInt} {
			if len(x.Told(from)) != 0 {
				t.Errorf("told from %d: %v", from, x.Told(from))
			}
		}
		if m.Count() != 0 {
			t.Error("an access")
		}
	}
}

// P12.2, P12.3: whatever the thread is, also one that may not be, it is in the accesses, and nothing else hangs on it.
func TestThreads(t *testing.T) {
	run := func(thread int) (*life, []api.Answer) {
		l := newLife(t, config(4, true), memory(t, 4, 4))
		said := []api.Answer{
			l.x.Do(l.m, thread, wantBegin()),
			l.x.Do(l.m, thread, wantRead(3)),
			l.x.Step(l.m, thread),
			l.x.Do(l.m, thread, wantWrite(2, 5)),
			l.x.Do(l.m, thread, wantCommit()),
		}
		for range 15 {
			said = append(said, l.x.Step(l.m, thread))
		}
		return l, said
	}
	like, want := run(0)
	for _, thread := range []int{math.MinInt, -1 << 32, -1, 0, 7, 8, 9, 1 << 32, math.MaxInt} {
		l, said := run(thread)
		log := l.m.Log(0)
		for i := range log {
			if log[i].Thread != thread {
				t.Errorf("thread %d: %+v", thread, log[i])
			}
			log[i].Thread = 0
		}
		if !slices.Equal(said, want) || !slices.Equal(log, like.m.Log(0)) || !slices.Equal(l.x.Told(0), like.x.Told(0)) {
			t.Errorf("thread %d: %+v, not %+v", thread, said, want)
		}
	}
	if told := like.x.Told(0); told[len(told)-1] != complete(1) {
		t.Errorf("%+v", told)
	}
}

// P12.4: events from every number on, also from such as there are not.
func TestTold(t *testing.T) {
	l := inPhase(t, published)
	all := []api.Event{opened(), begun(1, 1), read(9, 0, 1, 1), wrote(2, -2), wrote(9, -9), publishedAs(2, 2, 9)}
	for _, from := range []int{math.MinInt, math.MinInt32, -7, -1, 0} {
		if got := l.x.Told(from); !slices.Equal(got, all) {
			t.Errorf("from %d: %+v", from, got)
		}
	}
	for from := range all {
		if got := l.x.Told(from); !slices.Equal(got, all[from:]) {
			t.Errorf("from %d: %+v", from, got)
		}
	}
	for _, from := range []int{6, 7, 1 << 31, 1 << 32, math.MaxInt} {
		if got := l.x.Told(from); len(got) != 0 {
			t.Errorf("from %d: %+v", from, got)
		}
	}
}

// scrawl writes over a list and its spare room.
func scrawl[T any](list []T, v T) {
	list = list[:cap(list)]
	for i := range list {
		list[i] = v
	}
}

// R3: what is handed out is new memory each time, its spare room too: it is the caller's to change.
func TestHandedOut(t *testing.T) {
	for phase := none; phase <= published; phase++ {
		l := inPhase(t, phase)
		before := lookAt(l.x)
		for range 3 {
			scrawl(l.x.Writes(), api.Write{Cell: 5, Value: 55})
			for _, from := range []int{-1, 0, 1, 2, 99} {
				scrawl(l.x.Told(from), api.Event{Kind: 77})
			}
			unchanged(t, l.x, before)
		}
		one, two, told, more := l.x.Writes(), l.x.Writes(), l.x.Told(0), l.x.Told(0)
		scrawl(one, api.Write{Cell: 5, Value: 55})
		scrawl(told, api.Event{Kind: 77})
		if !slices.Equal(two, before.writes) || !slices.Equal(more, before.told) {
			t.Errorf("phase %d: two lists are one", phase)
		}
		asIfNothingHadBeen(t, l, phase)
	}
	// What was handed out ahead stays, whatever comes.
	l := inPhase(t, none)
	var lists [][]api.Event
	l.x.Do(l.m, 5, wantBegin())
	for range 40 {
		l.x.Step(l.m, 5)
		l.x.Do(l.m, 5, wantWrite(1, int64(len(lists))))
		lists = append(lists, l.x.Told(0))
	}
	for _, list := range lists {
		if !slices.Equal(list, l.x.Told(0)[:len(list)]) {
			t.Errorf("%+v", list)
		}
	}
}

// P12.4: asking changes nothing.
func TestAsking(t *testing.T) {
	for phase := none; phase <= published; phase++ {
		l := inPhase(t, phase)
		accesses := l.m.Count()
		before := lookAt(l.x)
		for range 5 {
			unchanged(t, l.x, before)
		}
		if l.m.Count() != accesses {
			t.Error("an access")
		}
		asIfNothingHadBeen(t, l, phase)
	}
}
