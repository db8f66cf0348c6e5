package prog_test

import (
	"math"
	"slices"
	"strings"
	"testing"

	"carousel/api"
	"carousel/asm"
	"carousel/mem"
	"carousel/place"
	"carousel/prog"
	"carousel/sig"
)

// The four kinds' regions.
func counters(most int) api.Region { return api.Region{Kind: api.KindCounter, Cap: most} }
func queueOf(most int) api.Region  { return api.Region{Kind: api.KindQueue, Cap: most} }
func dictOf(most int) api.Region   { return api.Region{Kind: api.KindDict, Cap: most} }
func chainOf(most int) api.Region  { return api.Region{Kind: api.KindChain, Cap: most} }

// with is a configuration that may be, of so many plain cells and of regions.
func with(raw int, regions ...api.Region) api.Config {
	return api.Config{Raw: raw, Ring: 2, Writes: 8, Stamps: 1000, Tries: 2, Regions: regions}
}

// ofExamples is the chapter's own.
func ofExamples() api.Config {
	return api.Config{Raw: 2, Ring: 2, Writes: 4, Stamps: 9, Tries: 2, Regions: []api.Region{counters(2)}}
}

// The answers of a step.
func nothing() api.Answer { return api.Answer{} }
func moved() api.Answer   { return api.Answer{Kind: api.AnsMoved} }
func movedBy() api.Answer { return api.Answer{Kind: api.AnsMoved, Access: true} }
func waitsBy() api.Answer { return api.Answer{Kind: api.AnsWait, Access: true} }
func done() api.Answer    { return api.Answer{Kind: api.AnsDone} }
func doneBy() api.Answer  { return api.Answer{Kind: api.AnsDone, Access: true} }
func failed(why api.Errno) api.Answer {
	return api.Answer{Kind: api.AnsFailed, Err: why}
}
func failedBy(why api.Errno) api.Answer {
	return api.Answer{Kind: api.AnsFailed, Err: why, Access: true}
}

// The events.
func opened() api.Event { return api.Event{Kind: api.EvOpened} }
func begun(start, seen int64) api.Event {
	return api.Event{Kind: api.EvBegun, Start: start, Seen: seen}
}
func read(cell int, v, start, seen int64) api.Event {
	return api.Event{Kind: api.EvRead, Cell: cell, Value: v, Start: start, Seen: seen}
}
func readOwn(cell int, v, start, seen int64) api.Event {
	return api.Event{Kind: api.EvRead, Cell: cell, Value: v, Own: true, Start: start, Seen: seen}
}
func wrote(cell int, v int64) api.Event {
	return api.Event{Kind: api.EvWrote, Cell: cell, Value: v}
}
func publishedAs(stamp int64, cells ...int) api.Event {
	return api.Event{Kind: api.EvPublished, Stamp: stamp, Sig: sig.Of(cells...)}
}
func complete(stamp int64) api.Event { return api.Event{Kind: api.EvComplete, Stamp: stamp} }
func ended(why api.Errno, start, seen int64, cells ...int) api.Event {
	return api.Event{Kind: api.EvEnded, Err: why, Start: start, Seen: seen, Sig: sig.Of(cells...)}
}

// program is a text's bytes, a line an instruction.
func program(t *testing.T, lines ...string) string {
	t.Helper()
	bytes, why, at := asm.Parse(strings.Join(lines, "\n"))
	if why != api.OK {
		t.Fatalf("%q: error %d at %d", lines, why, at)
	}
	return bytes
}

// made is a job that must be there.
func made(t *testing.T, c api.Config, code string, args ...int64) *prog.Machine {
	t.Helper()
	x, why := prog.New(c, code, args)
	if x == nil || why != api.OK {
		t.Fatalf("New(%+v, %x, %v): %v, error %d", c, code, args, x, why)
	}
	return x
}

// memory is a new one of just so many cells as a configuration needs.
func memory(t *testing.T, c api.Config) *mem.Mem {
	t.Helper()
	cells, why := place.Cells(c)
	if why != api.OK {
		t.Fatalf("%+v: error %d", c, why)
	}
	return memoryOf(t, cells, c.Ring)
}

// memoryOf is a new one of so many cells and slots.
func memoryOf(t *testing.T, cells, slots int) *mem.Mem {
	t.Helper()
	m, why := mem.New(cells, slots)
	if m == nil || why != api.OK {
		t.Fatalf("a memory of %d cells and %d slots: error %d", cells, slots, why)
	}
	return m
}

// cellsOf are all cells of a memory.
func cellsOf(t *testing.T, m *mem.Mem) []int64 {
	t.Helper()
	count, _ := m.Sizes()
	cells := make([]int64, count)
	for i := range cells {
		v, why := m.Peek(api.Addr{Kind: api.AddrCell, I: i})
		if why != api.OK {
			t.Fatalf("the cell %d: error %d", i, why)
		}
		cells[i] = v
	}
	return cells
}

// setCell makes a cell another, by no job.
func setCell(t *testing.T, m *mem.Mem, cell int, v int64) {
	t.Helper()
	if why := m.Store(99, api.Addr{Kind: api.AddrCell, I: cell}, v); why != api.OK {
		t.Fatalf("the cell %d: error %d", cell, why)
	}
}

// step makes a step, and holds its accesses: one at most, just where the answer says so, and of that thread.
func step(t *testing.T, x *prog.Machine, m *mem.Mem, thread int) api.Answer {
	t.Helper()
	before := m.Count()
	answer := x.Step(m, thread)
	log := m.Log(before)
	if len(log) > 1 || answer.Access != (len(log) == 1) {
		t.Fatalf("%+v by %+v", answer, log)
	}
	if len(log) == 1 && log[0].Thread != thread {
		t.Fatalf("%+v by %+v, not of the thread %d", answer, log, thread)
	}
	return answer
}

// steps: the next steps are answered so.
func steps(t *testing.T, x *prog.Machine, m *mem.Mem, want ...api.Answer) {
	t.Helper()
	for i, right := range want {
		if got := step(t, x, m, 3); got != right {
			t.Fatalf("step %d: %+v, not %+v", i, got, right)
		}
	}
}

// times are so many answers that are the same.
func times(count int, answer api.Answer) []api.Answer {
	return slices.Repeat([]api.Answer{answer}, count)
}

// inRow are lists of answers, one behind the other.
func inRow(lists ...[]api.Answer) []api.Answer { return slices.Concat(lists...) }

// toEnd makes steps till the job is over, and tells how it ended; false: it wasn't over behind so many.
func toEnd(t *testing.T, x *prog.Machine, m *mem.Mem, most int) (api.Outcome, bool) {
	t.Helper()
	for range most {
		if o, over := x.Outcome(); over {
			return o, true
		}
		step(t, x, m, 3)
	}
	return x.Outcome()
}

// endsAs: a job is over, by so many tries, for this reason, having told this.
func endsAs(t *testing.T, x *prog.Machine, tries int, why api.Errno, tells ...int64) {
	t.Helper()
	o, over := x.Outcome()
	if !over || o.Tries != tries || o.Err != why || !slices.Equal(o.Tells, tells) {
		t.Errorf("Outcome: %+v, %v; not %d tries, error %d, %v", o, over, tries, why, tells)
	}
}

// comesTo runs a job alone over a memory to its end.
func comesTo(t *testing.T, x *prog.Machine, m *mem.Mem, why api.Errno, tells ...int64) {
	t.Helper()
	toEnd(t, x, m, 2000)
	endsAs(t, x, 1, why, tells...)
	if got := step(t, x, m, 3); got != nothing() {
		t.Errorf("a step behind the end: %+v", got)
	}
}

// tells: a program that is run alone, with args, over a new memory, commits and tells this.
func tells(t *testing.T, c api.Config, code string, args []int64, told ...int64) {
	t.Helper()
	comesTo(t, made(t, c, code, args...), memory(t, c), api.OK, told...)
}

// stackIs: these numbers are on the stack.
func stackIs(t *testing.T, x *prog.Machine, want ...int64) {
	t.Helper()
	if got := x.Stack(); !slices.Equal(got, want) {
		t.Errorf("Stack: %v, not %v", got, want)
	}
}

// tryIs: that try is at hand.
func tryIs(t *testing.T, x *prog.Machine, number int, published bool) {
	t.Helper()
	if n, is := x.Try(); n != number || is != published {
		t.Errorf("Try: %d, %v; not %d, %v", n, is, number, published)
	}
}

// writesAre: that is what its transaction writes.
func writesAre(t *testing.T, x *prog.Machine, want ...api.Write) {
	t.Helper()
	if got := x.Writes(); !slices.Equal(got, want) {
		t.Errorf("Writes: %v, not %v", got, want)
	}
}

// toldIs: these are all events, whichever one is asked from.
func toldIs(t *testing.T, x *prog.Machine, want ...api.Event) {
	t.Helper()
	for _, from := range []int{math.MinInt, math.MinInt32, -2, -1} {
		if got := x.Told(from); !slices.Equal(got, want) {
			t.Fatalf("Told(%d): %+v, not %+v", from, got, want)
		}
	}
	for from := range want {
		if got := x.Told(from); !slices.Equal(got, want[from:]) {
			t.Fatalf("Told(%d): %+v, not %+v", from, got, want[from:])
		}
	}
	for _, from := range []int{len(want), len(want) + 1, len(want) + 2, math.MaxInt32, math.MaxInt} {
		if got := x.Told(from); len(got) != 0 {
			t.Fatalf("Told(%d): %+v", from, got)
		}
	}
}

// cellsAre: a memory's cells are these.
func cellsAre(t *testing.T, m *mem.Mem, want ...int64) {
	t.Helper()
	if got := cellsOf(t, m); !slices.Equal(got, want) {
		t.Errorf("the cells are %v, not %v", got, want)
	}
}

// written are the answers from a commit on that publishes the first entry of a memory, without Multi, and writes so many cells.
func written(cells int) []api.Answer {
	return append(times(1+1+9+cells, movedBy()), doneBy())
}

// P21.2, P21.4, P21.5: the chapter's first example.
func TestExampleTell(t *testing.T) {
	c := ofExamples()
	x, m := made(t, c, "\x01\x05\x1d\x00"), memory(t, c)
	tryIs(t, x, 1, false)
	steps(t, x, m, movedBy(), moved())
	stackIs(t, x, 5)
	steps(t, x, m, moved())
	stackIs(t, x)
	if o, over := x.Outcome(); over || o.Tries != 0 || o.Err != api.OK || len(o.Tells) != 0 {
		t.Errorf("Outcome ahead of the end: %+v, %v", o, over)
	}
	steps(t, x, m, done(), nothing(), nothing())
	endsAs(t, x, 1, api.OK, 5)
	tryIs(t, x, 1, false)
	toldIs(t, x, opened(), begun(0, 0), ended(api.OK, 0, 0))
	if m.Count() != 1 {
		t.Errorf("%d accesses", m.Count())
	}
}

// P21.2, P21.4, P21.6, P21.7: the second one.
func TestExampleStore(t *testing.T) {
	c := ofExamples()
	x, m := made(t, c, "\x01\x01\x01\x07\x20\x00"), memory(t, c)
	steps(t, x, m, movedBy(), moved(), moved())
	stackIs(t, x, 1, 7)
	writesAre(t, x)
	steps(t, x, m, moved())
	stackIs(t, x)
	writesAre(t, x, api.Write{Cell: 1, Value: 7})
	all := written(1)
	steps(t, x, m, all[:1]...)
	tryIs(t, x, 1, false)
	steps(t, x, m, all[1:2]...)
	tryIs(t, x, 1, true)
	steps(t, x, m, all[2:len(all)-1]...)
	tryIs(t, x, 1, true)
	writesAre(t, x, api.Write{Cell: 1, Value: 7})
	toldIs(t, x, opened(), begun(0, 0), wrote(1, 7), publishedAs(1, 1))
	steps(t, x, m, doneBy(), nothing())
	endsAs(t, x, 1, api.OK)
	// It has published its entry; but a transaction that is complete writes nothing.
	tryIs(t, x, 1, true)
	writesAre(t, x)
	toldIs(t, x, opened(), begun(0, 0), wrote(1, 7), publishedAs(1, 1), complete(1))
	cellsAre(t, m, 0, 7, 0, 0)
}

// P21.2, P21.4: the third one: a collection's call.
func TestExampleCounter(t *testing.T) {
	c := ofExamples()
	x, m := made(t, c, "\x01\x01\x01\x03\x21\x00\x05\x1d\x00"), memory(t, c)
	steps(t, x, m, movedBy(), moved(), moved())
	stackIs(t, x, 1, 3)
	// The cell is read by two accesses; what is written, and the call's end, need none.
	steps(t, x, m, movedBy())
	stackIs(t, x)
	toldIs(t, x, opened(), begun(0, 0))
	steps(t, x, m, movedBy())
	stackIs(t, x)
	toldIs(t, x, opened(), begun(0, 0), read(3, 0, 0, 0))
	writesAre(t, x)
	steps(t, x, m, moved())
	stackIs(t, x, 3, 0)
	writesAre(t, x, api.Write{Cell: 3, Value: 3})
	toldIs(t, x, opened(), begun(0, 0), read(3, 0, 0, 0), wrote(3, 3))
	steps(t, x, m, moved(), moved())
	steps(t, x, m, written(1)...)
	endsAs(t, x, 1, api.OK, 3)
	cellsAre(t, m, 0, 0, 0, 3)
	// Once more over the same memory.
	again := made(t, c, "\x01\x01\x01\x03\x21\x00\x05\x1d\x00")
	comesTo(t, again, m, api.OK, 6)
	cellsAre(t, m, 0, 0, 0, 6)
}

// P21.2, P21.4: the fourth one: what ends at the first step behind the begin, and what never ends.
func TestExampleEnds(t *testing.T) {
	c := ofExamples()
	for _, code := range []string{"\x05", "\x04", "\x1b", "\x29", "\x21\x01", "\x25\x00", ""} {
		x, m := made(t, c, code), memory(t, c)
		steps(t, x, m, movedBy(), failed(api.ErrBadProgram), nothing())
		endsAs(t, x, 1, api.ErrBadProgram)
		toldIs(t, x, opened(), begun(0, 0), ended(api.ErrBadProgram, 0, 0))
	}
	x, m := made(t, c, "\x01\x01\x1e"), memory(t, c)
	steps(t, x, m, movedBy(), moved(), failed(api.ErrOwn), nothing())
	endsAs(t, x, 1, api.ErrOwn)
	stackIs(t, x, 1)
	x, m = made(t, c, "\x18\xfd\xff"), memory(t, c)
	steps(t, x, m, movedBy())
	steps(t, x, m, times(3000, moved())...)
	if _, over := x.Outcome(); over {
		t.Errorf("a jump to itself is over")
	}
	toldIs(t, x, opened(), begun(0, 0))
}

// P21.1: a job that is new has made no step, of any code.
func TestNew(t *testing.T) {
	for _, c := range []api.Config{with(1), with(64), ofExamples(), with(3, counters(0), queueOf(16), dictOf(16), chainOf(16)), with(1, slices.Repeat([]api.Region{chainOf(16)}, 8)...)} {
		for _, code := range []string{"", "\x00", "\xff", "\x03", strings.Repeat("\x00", 511), strings.Repeat("\xff", 512), strings.Repeat("\x00", 512)} {
			for count := range 5 {
				x := made(t, c, code, make([]int64, count)...)
				if o, over := x.Outcome(); over || o.Tries != 0 || o.Err != api.OK || len(o.Tells) != 0 {
					t.Errorf("Outcome of a new one: %+v, %v", o, over)
				}
				tryIs(t, x, 1, false)
				stackIs(t, x)
				writesAre(t, x)
				toldIs(t, x)
			}
		}
	}
}

// P21.1: a program of MaxCode bytes goes on to its last one.
func TestLongestProgram(t *testing.T) {
	code := "\x01\x07" + strings.Repeat("\x04\x05", 254) + "\x1d\x00"
	if len(code) != api.MaxCode {
		t.Fatalf("%d bytes", len(code))
	}
	tells(t, with(1), code, nil, 7)
	// Without its last byte it goes on behind the code.
	x, m := made(t, with(1), code[:511]), memory(t, with(1))
	comesTo(t, x, m, api.ErrBadProgram)
	// A jump to the last byte.
	tells(t, with(1), "\x01\x07\x1d\x18\xf9\x01"+strings.Repeat("\xff", 505)+"\x00", nil, 7)
}

// P21.5: the numbers are told in their order, and the greatest and the least are told whole.
func TestTells(t *testing.T) {
	code := program(t, "push64 -9223372036854775808", "tell", "push64 9223372036854775807", "tell", "push8 -128", "tell", "push16 -32768", "tell", "push8 0", "tell", "commit")
	tells(t, with(1), code, nil, math.MinInt64, math.MaxInt64, -128, -32768, 0)
	// Of a job that ends otherwise nothing is told.
	for _, last := range []string{"abort", "ret"} {
		x, m := made(t, with(1), program(t, "push8 1", "tell", "push8 2", last)), memory(t, with(1))
		toEnd(t, x, m, 20)
		o, over := x.Outcome()
		if !over || o.Tries != 1 || o.Err == api.OK || len(o.Tells) != 0 {
			t.Errorf("behind %s: %+v, %v", last, o, over)
		}
		stackIs(t, x, 2)
	}
}

// P21.2: the thread that is handed in makes the accesses, each time anew.
func TestThreads(t *testing.T) {
	c := with(2)
	x, m := made(t, c, program(t, "push8 1", "load", "push8 0", "swap", "store", "commit")), memory(t, c)
	for i := 0; ; i++ {
		if _, over := x.Outcome(); over {
			break
		}
		step(t, x, m, []int{0, -1, math.MaxInt, math.MinInt, 7}[i%5])
	}
	endsAs(t, x, 1, api.OK)
}
