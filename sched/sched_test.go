package sched_test

import (
	"math"
	"reflect"
	"slices"
	"strings"
	"testing"

	"carousel/api"
	"carousel/asm"
	"carousel/place"
	"carousel/sched"
	"carousel/sig"
)

// The four kinds' regions.
func counters(most int) api.Region { return api.Region{Kind: api.KindCounter, Cap: most} }
func queueOf(most int) api.Region  { return api.Region{Kind: api.KindQueue, Cap: most} }
func dictOf(most int) api.Region   { return api.Region{Kind: api.KindDict, Cap: most} }
func chainOf(most int) api.Region  { return api.Region{Kind: api.KindChain, Cap: most} }

// with is a configuration that may be, of so many plain cells and of regions.
func with(raw int, regions ...api.Region) api.Config {
	return api.Config{Raw: raw, Ring: 2, Writes: 8, Stamps: 1000, Tries: 2, Regions: regions}
}

// The answers of a step.
func nothing() api.Answer { return api.Answer{} }
func moved() api.Answer   { return api.Answer{Kind: api.AnsMoved} }
func movedBy() api.Answer { return api.Answer{Kind: api.AnsMoved, Access: true} }
func waitsBy() api.Answer { return api.Answer{Kind: api.AnsWait, Access: true} }
func done() api.Answer    { return api.Answer{Kind: api.AnsDone} }
func doneBy() api.Answer  { return api.Answer{Kind: api.AnsDone, Access: true} }
func failed(why api.Errno) api.Answer {
	return api.Answer{Kind: api.AnsFailed, Err: why}
}
func failedBy(why api.Errno) api.Answer {
	return api.Answer{Kind: api.AnsFailed, Err: why, Access: true}
}

// program is a text's bytes, a line an instruction.
func program(t *testing.T, lines ...string) string {
	t.Helper()
	bytes, why, at := asm.Parse(strings.Join(lines, "\n"))
	if why != api.OK {
		t.Fatalf("%q: error %d at %d", lines, why, at)
	}
	return bytes
}

// oneMore is a program that makes the plain cell 0 greater by 1, as the chapter has it.
func oneMore(t *testing.T) string {
	t.Helper()
	return program(t, "push8 0", "load", "push8 1", "add", "push8 0", "swap", "store", "commit")
}

// puts is a program that writes its numbers to the plain cells 0, 1 and so on, and reads nothing.
func puts(t *testing.T, numbers ...string) string {
	t.Helper()
	var lines []string
	for i, number := range numbers {
		if number != "" {
			lines = append(lines, "push8 "+string(rune('0'+i)), number, "store")
		}
	}
	return program(t, append(lines, "commit")...)
}

// job is one of a program, with arguments.
func job(program int, args ...int64) api.Job { return api.Job{Program: program, Args: args} }

// made is a world that must be there.
func made(t *testing.T, s api.Setup) *sched.World {
	t.Helper()
	w, why := sched.New(s)
	if w == nil || why != api.OK {
		t.Fatalf("New(%+v): %v, error %d", s, w, why)
	}
	return w
}

// step makes a step, and holds its accesses: one at most, just where the answer says so, and of that thread.
func step(t *testing.T, w *sched.World, thread int) api.Answer {
	t.Helper()
	before := len(w.Log(0))
	answer := w.Step(thread)
	log := w.Log(before)
	if len(log) > 1 || answer.Access != (len(log) == 1) {
		t.Fatalf("%+v by %+v", answer, log)
	}
	if len(log) == 1 && log[0].Thread != thread {
		t.Fatalf("%+v by %+v, not of the thread %d", answer, log, thread)
	}
	return answer
}

// steps: the next steps of a thread are answered so.
func steps(t *testing.T, w *sched.World, thread int, want ...api.Answer) {
	t.Helper()
	for i, right := range want {
		if got := step(t, w, thread); got != right {
			t.Fatalf("step %d of the thread %d: %+v, not %+v", i, thread, got, right)
		}
	}
}

// times are so many answers that are the same.
func times(count int, answer api.Answer) []api.Answer {
	return slices.Repeat([]api.Answer{answer}, count)
}

// toEnd makes steps of a thread till it is through.
func toEnd(t *testing.T, w *sched.World, thread int) {
	t.Helper()
	for range 20000 {
		if step(t, w, thread) == nothing() {
			return
		}
	}
	t.Fatalf("the thread %d isn't through", thread)
}

// toPublished makes steps of a thread till what its job writes is published.
func toPublished(t *testing.T, w *sched.World, thread int) {
	t.Helper()
	for range 200 {
		if w.Threads()[thread].Published {
			return
		}
		step(t, w, thread)
	}
	t.Fatalf("the thread %d has not published", thread)
}

// threadsAre: all threads stand so.
func threadsAre(t *testing.T, w *sched.World, want ...api.Thread) {
	t.Helper()
	if got := w.Threads(); !slices.Equal(got, want) {
		t.Errorf("Threads: %+v, not %+v", got, want)
	}
}

// cellsAre: all cells stand so.
func cellsAre(t *testing.T, w *sched.World, want ...int64) {
	t.Helper()
	if got := w.Cells(); !slices.Equal(got, want) {
		t.Errorf("Cells: %v, not %v", got, want)
	}
}

// finishedAre: all cells will be so.
func finishedAre(t *testing.T, w *sched.World, want ...int64) {
	t.Helper()
	if got := w.Finished(); !slices.Equal(got, want) {
		t.Errorf("Finished: %v, not %v", got, want)
	}
}

// outcome is how a job ended.
func outcome(tries int, why api.Errno, tells ...int64) api.Outcome {
	return api.Outcome{Tries: tries, Err: why, Tells: tells}
}

// sameOutcomes: are they the same, a list of nothing being as good as none?
func sameOutcomes(a, b []api.Outcome) bool {
	return slices.EqualFunc(a, b, func(x, y api.Outcome) bool {
		return x.Tries == y.Tries && x.Err == y.Err && slices.Equal(x.Tells, y.Tells)
	})
}

// outcomesAre: a thread's jobs ended so.
func outcomesAre(t *testing.T, w *sched.World, thread int, want ...api.Outcome) {
	t.Helper()
	if got := w.Outcomes(thread); !sameOutcomes(got, want) {
		t.Errorf("Outcomes(%d): %+v, not %+v", thread, got, want)
	}
}

// eventsAre: the history is so, from wherever it is asked for.
func eventsAre(t *testing.T, w *sched.World, want ...api.Event) {
	t.Helper()
	for _, from := range []int{math.MinInt, -1, 0, 1, len(want) - 1, len(want), len(want) + 1, math.MaxInt} {
		right := want[min(max(from, 0), len(want)):]
		if got := w.Events(from); !slices.Equal(got, right) {
			t.Errorf("Events(%d): %+v, not %+v", from, got, right)
		}
	}
}

// look is all that a world tells of itself.
type look struct {
	threads  []api.Thread
	outcomes [][]api.Outcome
	cells    []int64
	finished []int64
	ring     []api.Entry
	events   []api.Event
	log      []api.Access
	touched  []api.Touch
}

// lookAt is what a world tells now.
func lookAt(w *sched.World) look {
	l := look{threads: w.Threads(), cells: w.Cells(), finished: w.Finished(), ring: w.Ring(), events: w.Events(0), log: w.Log(0), touched: w.Touched()}
	for i := range l.threads {
		l.outcomes = append(l.outcomes, w.Outcomes(i))
	}
	return l
}

// sameLook: do both looks tell the same?
func sameLook(a, b look) bool {
	return slices.Equal(a.threads, b.threads) && slices.EqualFunc(a.outcomes, b.outcomes, sameOutcomes) &&
		slices.Equal(a.cells, b.cells) && slices.Equal(a.finished, b.finished) && slices.Equal(a.ring, b.ring) &&
		slices.Equal(a.events, b.events) && slices.Equal(a.log, b.log) && slices.Equal(a.touched, b.touched)
}

// P22.1: in a new world no step was made, and there are as many cells as the configuration has.
func TestNew(t *testing.T) {
	long := strings.Repeat("\x00", api.MaxCode)
	most := api.Setup{Config: with(64, slices.Repeat([]api.Region{chainOf(16)}, 8)...), Programs: slices.Repeat([]string{long}, api.MaxPrograms)}
	for range api.MaxThreads {
		most.Threads = append(most.Threads, slices.Repeat([]api.Job{job(api.MaxPrograms-1, 1, 2, 3, 4)}, api.MaxJobs))
	}
	for _, s := range []api.Setup{
		{Config: with(1)},
		{Config: with(3), Programs: []string{"", "\xff"}},
		{Config: with(2), Threads: make([][]api.Job, 1)},
		{Config: with(2), Threads: make([][]api.Job, api.MaxThreads)},
		{Config: with(2), Programs: []string{""}, Threads: [][]api.Job{{job(0)}, {}, {job(0, 7), {}}}},
		{Config: with(3, counters(0), queueOf(16), dictOf(16), chainOf(16)), Programs: []string{"", long}, Threads: [][]api.Job{{job(1, 1, 2, 3, 4)}}},
		most,
	} {
		w := made(t, s)
		threadsAre(t, w, make([]api.Thread, len(s.Threads))...)
		for i := range s.Threads {
			outcomesAre(t, w, i)
		}
		count, _ := place.Cells(s.Config)
		cellsAre(t, w, make([]int64, count)...)
		finishedAre(t, w, make([]int64, count)...)
		if l := lookAt(w); len(l.ring)+len(l.events)+len(l.log)+len(l.touched) != 0 {
			t.Errorf("%+v", l)
		}
	}
}

// P22.1: MaxThreads threads of MaxJobs jobs each, of the last of MaxPrograms programs, do all of them.
func TestMost(t *testing.T) {
	s := api.Setup{Config: with(1, counters(8)), Programs: make([]string, api.MaxPrograms)}
	s.Config.Tries = 255
	s.Programs[api.MaxPrograms-1] = program(t, "arg 0", "arg 3", "cadd 0", "drop", "tell", "commit")
	s.Programs[0] = strings.Repeat("\x18\x00\x00", 170) + "\x1d\x00"
	for i := range api.MaxThreads {
		s.Threads = append(s.Threads, slices.Repeat([]api.Job{job(api.MaxPrograms-1, int64(i), 0, 0, 1)}, api.MaxJobs))
	}
	w := made(t, s)
	for i := range api.MaxThreads {
		toEnd(t, w, i)
	}
	for i, x := range w.Threads() {
		if x.Job != api.MaxJobs {
			t.Errorf("the thread %d: %+v", i, x)
		}
		var want []api.Outcome
		for told := range int64(api.MaxJobs) {
			want = append(want, outcome(1, api.OK, told+1))
		}
		outcomesAre(t, w, i, want...)
	}
	cellsAre(t, w, 0, 32, 32, 32, 32, 32, 32, 32, 32)
	// A program of MaxCode bytes comes to its last byte.
	s.Threads = [][]api.Job{{job(0)}}
	s.Programs[0] = "\x01\x07" + strings.Repeat("\x04\x05", 254) + "\x1d\x00"
	w = made(t, s)
	toEnd(t, w, 0)
	outcomesAre(t, w, 0, outcome(1, api.OK, 7))
}

// P22.1: the memory has as many slots as the ring: entries stand at their stamps' slots.
func TestSlots(t *testing.T) {
	for slots := 1; slots <= api.MaxRing; slots++ {
		c := with(1)
		c.Ring = slots
		w := made(t, api.Setup{Config: c, Programs: []string{oneMore(t)}, Threads: [][]api.Job{make([]api.Job, 20)}})
		toEnd(t, w, 0)
		cellsAre(t, w, 20)
		heads := 0
		for _, x := range w.Touched() {
			if x.Addr.Kind == api.AddrHead && x.Stores > 0 {
				heads++
			}
		}
		if heads != slots || len(w.Ring()) != slots {
			t.Errorf("%d slots: %d heads, %d entries", slots, heads, len(w.Ring()))
		}
	}
}

// The chapter's example 1: whoever steps first, in the end the cell is 2.
func TestExampleBothAdd(t *testing.T) {
	seed := strewn(61)
	for haste := range 60 {
		c := with(1)
		c.Tries, c.Multi = 255, haste%2 == 0
		w := made(t, api.Setup{Config: c, Programs: []string{oneMore(t), "\x00"}, Threads: [][]api.Job{{job(0)}, {job(0)}}})
		for range 1000 {
			at := seed.below(2)
			for range 1 + seed.below(haste+1) {
				step(t, w, at)
			}
		}
		cellsAre(t, w, 2)
		finishedAre(t, w, 2)
		for i := range 2 {
			if o := w.Outcomes(i); len(o) != 1 || o[0].Err != api.OK {
				t.Errorf("Outcomes(%d): %+v", i, o)
			}
		}
	}
}

// The chapter's example 2: of a step that isn't one nothing is kept.
func TestExampleNothing(t *testing.T) {
	w := made(t, api.Setup{Config: with(1), Programs: []string{oneMore(t)}, Threads: [][]api.Job{{}, {job(0)}}})
	steps(t, w, 1, movedBy(), moved())
	was := lookAt(w)
	for _, thread := range []int{-1, 0, 2, 3, 8, math.MinInt, math.MaxInt} {
		steps(t, w, thread, nothing(), nothing())
	}
	if got := lookAt(w); !sameLook(got, was) {
		t.Errorf("%+v, not %+v", got, was)
	}
	toEnd(t, w, 1)
	was = lookAt(w)
	for _, thread := range []int{-1, 0, 1, 2} {
		steps(t, w, thread, nothing(), nothing())
	}
	if got := lookAt(w); !sameLook(got, was) {
		t.Errorf("%+v, not %+v", got, was)
	}
}

// P22.2 to P22.4: one thread with one job, step by step.
func TestOneJob(t *testing.T) {
	w := made(t, api.Setup{Config: with(2), Programs: []string{puts(t, "", "push8 7")}, Threads: [][]api.Job{{job(0)}}})
	steps(t, w, 0, movedBy(), moved(), moved(), moved(), movedBy())
	threadsAre(t, w, api.Thread{Try: 1, Steps: 5})
	finishedAre(t, w, 0, 0)
	steps(t, w, 0, movedBy())
	threadsAre(t, w, api.Thread{Try: 1, Published: true, Steps: 6})
	outcomesAre(t, w, 0)
	cellsAre(t, w, 0, 0)
	finishedAre(t, w, 0, 7)
	if got := w.Ring(); !slices.Equal(got, []api.Entry{{Stamp: 1, Mark: api.MarkRaw}}) {
		t.Errorf("Ring: %+v", got)
	}
	steps(t, w, 0, times(9, movedBy())...)
	if got := w.Ring(); !slices.Equal(got, []api.Entry{{Stamp: 1, Mark: api.MarkWriting, Sig: sig.Of(1)}}) {
		t.Errorf("Ring: %+v", got)
	}
	cellsAre(t, w, 0, 0)
	// Behind the last write it isn't complete yet.
	steps(t, w, 0, movedBy())
	cellsAre(t, w, 0, 7)
	finishedAre(t, w, 0, 7)
	threadsAre(t, w, api.Thread{Try: 1, Published: true, Steps: 16})
	steps(t, w, 0, doneBy())
	threadsAre(t, w, api.Thread{Job: 1, Steps: 17})
	outcomesAre(t, w, 0, outcome(1, api.OK))
	if got := w.Ring(); !slices.Equal(got, []api.Entry{{Stamp: 1, Mark: api.MarkDone, Sig: sig.Of(1)}}) {
		t.Errorf("Ring: %+v", got)
	}
	steps(t, w, 0, times(3, nothing())...)
	threadsAre(t, w, api.Thread{Job: 1, Steps: 17})
	cellsAre(t, w, 0, 7)
	finishedAre(t, w, 0, 7)
}

// P22.2, P22.3: jobs one behind the other, each ending its own way; the next one has made no step.
func TestJobs(t *testing.T) {
	s := api.Setup{Config: with(2), Programs: []string{
		program(t, "arg 0", "tell", "push8 4", "tell", "commit"), program(t, "push8 9", "tell", "abort"), "\x05", puts(t, "push8 3"),
	}, Threads: [][]api.Job{{job(0, 6), job(1), job(2), job(3), job(0)}}}
	w := made(t, s)
	steps(t, w, 0, movedBy(), moved(), moved(), moved(), moved())
	threadsAre(t, w, api.Thread{Try: 1, Steps: 5})
	outcomesAre(t, w, 0)
	steps(t, w, 0, done())
	threadsAre(t, w, api.Thread{Job: 1, Steps: 6})
	outcomesAre(t, w, 0, outcome(1, api.OK, 6, 4))
	steps(t, w, 0, movedBy())
	threadsAre(t, w, api.Thread{Job: 1, Try: 1, Steps: 7})
	steps(t, w, 0, moved(), moved(), failed(api.ErrOwn))
	threadsAre(t, w, api.Thread{Job: 2, Steps: 10})
	steps(t, w, 0, movedBy(), failed(api.ErrBadProgram))
	threadsAre(t, w, api.Thread{Job: 3, Steps: 12})
	outcomesAre(t, w, 0, outcome(1, api.OK, 6, 4), outcome(1, api.ErrOwn), outcome(1, api.ErrBadProgram))
	toPublished(t, w, 0)
	threadsAre(t, w, api.Thread{Job: 3, Try: 1, Published: true, Steps: 18})
	steps(t, w, 0, append(times(10, movedBy()), doneBy())...)
	threadsAre(t, w, api.Thread{Job: 4, Steps: 29})
	// The newest stamp, and the head word of the entry.
	steps(t, w, 0, movedBy(), movedBy(), moved(), moved(), moved(), moved(), done(), nothing())
	threadsAre(t, w, api.Thread{Job: 5, Steps: 36})
	outcomesAre(t, w, 0, outcome(1, api.OK, 6, 4), outcome(1, api.ErrOwn), outcome(1, api.ErrBadProgram), outcome(1, api.OK), outcome(1, api.OK, 0, 4))
	for _, thread := range []int{-1, 1, 2, math.MinInt, math.MaxInt} {
		if got := w.Outcomes(thread); len(got) != 0 {
			t.Errorf("Outcomes(%d): %+v", thread, got)
		}
	}
}

// P22.2, P22.3, P22.5: a conflict, a new try, and the last one; the moments and numbers of events.
func TestTries(t *testing.T) {
	s := api.Setup{Config: with(1), Programs: []string{oneMore(t)}, Threads: [][]api.Job{{job(0)}, {job(0), job(0)}}}
	w := made(t, s)
	steps(t, w, 0, movedBy(), moved(), movedBy(), movedBy())
	step(t, w, -1)
	toEnd(t, w, 1)
	k := w.Threads()[1].Steps
	threadsAre(t, w, api.Thread{Try: 1, Steps: 4}, api.Thread{Job: 2, Steps: k})
	cellsAre(t, w, 2)
	steps(t, w, 0, moved(), moved(), moved(), moved(), moved(), movedBy(), movedBy())
	step(t, w, 2)
	steps(t, w, 0, failedBy(api.ErrConflict))
	// The new try has made no step, but the job has.
	threadsAre(t, w, api.Thread{Try: 2, Steps: 12}, api.Thread{Job: 2, Steps: k})
	outcomesAre(t, w, 0)
	steps(t, w, 0, movedBy())
	threadsAre(t, w, api.Thread{Try: 2, Steps: 13}, api.Thread{Job: 2, Steps: k})
	toEnd(t, w, 0)
	cellsAre(t, w, 3)
	outcomesAre(t, w, 0, outcome(2, api.OK))
	outcomesAre(t, w, 1, outcome(1, api.OK), outcome(1, api.OK))
	last := w.Threads()[0].Steps + k - 1
	eventsAre(t, w,
		api.Event{Kind: api.EvOpened},
		api.Event{Kind: api.EvBegun},
		api.Event{At: 3, Kind: api.EvRead},
		api.Event{At: 4, Thread: 1, Tx: 1, Kind: api.EvOpened},
		api.Event{At: 4, Thread: 1, Tx: 1, Kind: api.EvBegun},
		api.Event{At: 7, Thread: 1, Tx: 1, Kind: api.EvRead},
		api.Event{At: 12, Thread: 1, Tx: 1, Kind: api.EvWrote, Value: 1},
		api.Event{At: 14, Thread: 1, Tx: 1, Kind: api.EvPublished, Stamp: 1, Sig: sig.Of(0)},
		api.Event{At: 25, Thread: 1, Tx: 1, Kind: api.EvComplete, Stamp: 1},
		api.Event{At: 26, Thread: 1, Tx: 2, Kind: api.EvOpened},
		api.Event{At: 27, Thread: 1, Tx: 2, Kind: api.EvBegun, Start: 1, Seen: 1},
		api.Event{At: 30, Thread: 1, Tx: 2, Kind: api.EvRead, Value: 1, Start: 1, Seen: 1},
		api.Event{At: 35, Thread: 1, Tx: 2, Kind: api.EvWrote, Value: 2},
		api.Event{At: 38, Thread: 1, Tx: 2, Kind: api.EvPublished, Stamp: 2, Sig: sig.Of(0)},
		api.Event{At: 3 + k, Thread: 1, Tx: 2, Kind: api.EvComplete, Stamp: 2},
		api.Event{At: 8 + k, Kind: api.EvWrote, Value: 1},
		api.Event{At: 11 + k, Kind: api.EvEnded, Err: api.ErrConflict, Sig: sig.Of(0)},
		api.Event{At: 12 + k, Tx: 3, Kind: api.EvOpened},
		api.Event{At: 13 + k, Tx: 3, Kind: api.EvBegun, Start: 2, Seen: 2},
		api.Event{At: 16 + k, Tx: 3, Kind: api.EvRead, Value: 2, Start: 2, Seen: 2},
		api.Event{At: 21 + k, Tx: 3, Kind: api.EvWrote, Value: 3},
		api.Event{At: 24 + k, Tx: 3, Kind: api.EvPublished, Stamp: 3, Sig: sig.Of(0)},
		api.Event{At: last, Tx: 3, Kind: api.EvComplete, Stamp: 3},
	)
}

// P22.3: a job that is tried as often as may be, and then is over; the thread goes on with its next one.
func TestLastTry(t *testing.T) {
	for _, tries := range []int{1, 2, 3, 4} {
		c := with(1)
		c.Tries = tries
		s := api.Setup{Config: c, Programs: []string{oneMore(t), program(t, "push8 5", "tell", "commit")}, Threads: [][]api.Job{{job(0), job(1)}, make([]api.Job, tries)}}
		w := made(t, s)
		for try := 1; try <= tries; try++ {
			for range 8 {
				step(t, w, 0)
			}
			for w.Threads()[1].Job < try {
				step(t, w, 1)
			}
			for step(t, w, 0) != failedBy(api.ErrConflict) {
			}
			want := api.Thread{Try: try + 1}
			if try == tries {
				want = api.Thread{Job: 1}
			}
			if got := w.Threads()[0]; got.Job != want.Job || got.Try != want.Try || got.Published {
				t.Errorf("behind the try %d of %d: %+v", try, tries, got)
			}
		}
		outcomesAre(t, w, 0, outcome(tries, api.ErrConflict))
		toEnd(t, w, 0)
		outcomesAre(t, w, 0, outcome(tries, api.ErrConflict), outcome(1, api.OK, 5))
	}
}

// P22.2, P22.3: waits are steps, too; nothing comes of them but an access.
func TestWaits(t *testing.T) {
	s := api.Setup{Config: with(2), Programs: []string{puts(t, "push8 5"), puts(t, "", "push8 6")}, Threads: [][]api.Job{{job(0)}, {job(1)}}}
	w := made(t, s)
	steps(t, w, 1, movedBy())
	toPublished(t, w, 0)
	steps(t, w, 1, moved(), moved(), moved(), movedBy())
	was := lookAt(w)
	steps(t, w, 1, times(3, waitsBy())...)
	threadsAre(t, w, api.Thread{Try: 1, Published: true, Steps: 6}, api.Thread{Try: 1, Steps: 8, Waits: 3})
	now := lookAt(w)
	if len(now.log) != len(was.log)+3 {
		t.Errorf("%d accesses, not 3", len(now.log)-len(was.log))
	}
	now.threads, now.log, now.touched = was.threads, was.log, was.touched
	if !sameLook(now, was) {
		t.Errorf("%+v, not %+v", now, was)
	}
	toEnd(t, w, 0)
	steps(t, w, 1, movedBy(), movedBy())
	threadsAre(t, w, api.Thread{Job: 1, Steps: 17}, api.Thread{Try: 1, Published: true, Steps: 10, Waits: 3})
	finishedAre(t, w, 5, 6)
	toEnd(t, w, 1)
	threadsAre(t, w, api.Thread{Job: 1, Steps: 17}, api.Thread{Job: 1, Steps: 21, Waits: 3})
	cellsAre(t, w, 5, 6)
	if events := w.Events(0); events[len(events)-1].At != 37 {
		t.Errorf("a wait is a step, too: %+v", events)
	}
}

// P22.4: several entries under way whose writes share cells: the later stamp's are what will be, whoever published it.
func TestFinished(t *testing.T) {
	orders := [][]int{{0, 1, 2}, {0, 2, 1}, {1, 0, 2}, {1, 2, 0}, {2, 0, 1}, {2, 1, 0}}
	for ahead := range 12 {
		for _, order := range orders {
			c := with(4)
			c.Ring, c.Multi = 4, true
			programs := []string{puts(t, "push8 10", "push8 11", "", "push8 13"), puts(t, "push8 20", "", "push8 22", "push8 23"), puts(t, "", "push8 31", "push8 32", "push8 33"), puts(t, "push8 1", "push8 1", "push8 1", "push8 1")}
			w := made(t, api.Setup{Config: c, Programs: programs, Threads: [][]api.Job{{job(0)}, {job(1)}, {job(2)}, slices.Repeat([]api.Job{job(3)}, ahead)}})
			toEnd(t, w, 3)
			want := w.Cells()
			finishedAre(t, w, want...)
			for _, thread := range order {
				toPublished(t, w, thread)
				for cell, v := range [][]int64{{10, 11, 0, 13}, {20, 0, 22, 23}, {0, 31, 32, 33}}[thread] {
					if v != 0 {
						want[cell] = v
					}
				}
				finishedAre(t, w, want...)
			}
			// So it stays, while all is written back.
			for range 200 {
				for thread := range 3 {
					step(t, w, thread)
					finishedAre(t, w, want...)
				}
				if t.Failed() {
					t.FailNow()
				}
			}
			cellsAre(t, w, want...)
		}
	}
}

// P22.4, P22.5: Log and Events from each number on.
func TestFrom(t *testing.T) {
	s := api.Setup{Config: with(1, queueOf(2)), Programs: []string{oneMore(t), program(t, "push8 4", "cput 0", "commit")}, Threads: [][]api.Job{{job(0), job(1)}, {job(1)}}}
	w := made(t, s)
	for range 60 {
		step(t, w, 0)
		step(t, w, 1)
	}
	log, events := w.Log(0), w.Events(0)
	if len(log) < 20 || len(events) < 10 {
		t.Fatalf("%d accesses, %d events", len(log), len(events))
	}
	eventsAre(t, w, events...)
	for from := -2; from <= len(log)+2; from++ {
		if got := w.Log(from); !slices.Equal(got, log[min(max(from, 0), len(log)):]) {
			t.Errorf("Log(%d): %+v", from, got)
		}
		if got := w.Events(from); !slices.Equal(got, events[min(max(from, 0), len(events)):]) {
			t.Errorf("Events(%d): %+v", from, got)
		}
	}
	for _, from := range []int{math.MinInt, math.MaxInt} {
		if got, want := len(w.Log(from)), map[bool]int{true: len(log)}[from < 0]; got != want {
			t.Errorf("Log(%d): %d accesses, not %d", from, got, want)
		}
	}
	counts := map[api.Addr]int{}
	for _, access := range log {
		counts[access.Addr]++
	}
	for _, x := range w.Touched() {
		counts[x.Addr] -= x.Loads + x.Stores + x.Swaps
	}
	for addr, left := range counts {
		if left != 0 {
			t.Errorf("Touched: %+v: %d are missing", addr, left)
		}
	}
}

// P22.2: each kind of collection is called, by threads beside each other.
func TestCollections(t *testing.T) {
	c := with(1, counters(2), queueOf(3), dictOf(3), chainOf(3))
	c.Tries = 255
	s := api.Setup{Config: c, Programs: []string{
		program(t, "push8 1", "arg 0", "cadd 0", "tell", "tell", "commit"),
		program(t, "arg 0", "cput 1", "tell", "drop", "commit"),
		program(t, "arg 0", "arg 1", "cput 2", "tell", "drop", "commit"),
		program(t, "arg 0", "cadd 3", "tell", "drop", "commit"),
		program(t, "clen 1", "drop", "tell", "arg 0", "cget 2", "drop", "tell", "cleast 3", "drop", "tell", "push8 1", "cget 0", "drop", "tell", "commit"),
	}, Threads: [][]api.Job{{job(0, 5), job(1, 7)}, {job(2, 3, 30)}, {job(3, 9), job(3, 4)}, {job(4, 3)}}}
	w := made(t, s)
	for range 500 {
		for thread := range 3 {
			step(t, w, thread)
		}
	}
	toEnd(t, w, 3)
	for i := range 3 {
		for _, o := range w.Outcomes(i) {
			if o.Err != api.OK {
				t.Errorf("of the thread %d: %+v", i, o)
			}
		}
	}
	outcomesAre(t, w, 3, outcome(1, api.OK, 1, 30, 4, 5))
	if !reflect.DeepEqual(w.Cells(), w.Finished()) {
		t.Errorf("Finished: %v, not %v", w.Finished(), w.Cells())
	}
}

// P22.2: a job that loops for ever: others go on beside it.
func TestLoop(t *testing.T) {
	s := api.Setup{Config: with(1), Programs: []string{program(t, "jump -3"), oneMore(t)}, Threads: [][]api.Job{{job(0), job(1)}, {job(1)}}}
	w := made(t, s)
	steps(t, w, 0, append([]api.Answer{movedBy()}, times(500, moved())...)...)
	toEnd(t, w, 1)
	steps(t, w, 0, times(500, moved())...)
	cellsAre(t, w, 1)
	outcomesAre(t, w, 0)
	if got := w.Threads()[0]; got != (api.Thread{Try: 1, Steps: 1001}) {
		t.Errorf("%+v", got)
	}
}
