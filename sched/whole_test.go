package sched_test

import (
	"fmt"
	"slices"
	"testing"

	"carousel/api"
	"carousel/mem"
	"carousel/prog"
	"carousel/sched"
	"carousel/sig"
)

// watch holds each step of a world against what DOC.md says of the whole.
type watch struct {
	t     *testing.T
	setup api.Setup
	w     *sched.World

	past    *past
	heard   int               // events
	logged  int               // accesses
	entries map[int64]*tx     // by their stamps
	waiting map[int]struct{}  // threads that waited since one moved on
	oldest  int64             // the oldest stamp that isn't complete; 0: there is none
	owed    int               // steps that its thread made since it is
	ends    map[api.Errno]int // how often a transaction ended so
	most    int               // the greatest owed at all
	rounds  int               // in which some waited, and not all
}

// watched is a new world under watch.
func watched(t *testing.T, s api.Setup) *watch {
	t.Helper()
	return &watch{t: t, setup: s, w: made(t, s), past: &past{}, entries: map[int64]*tx{}, waiting: map[int]struct{}{}, ends: map[api.Errno]int{}}
}

// unfinished are the threads that aren't through.
func (x *watch) unfinished() []int {
	var list []int
	for i, thread := range x.w.Threads() {
		if thread.Job < len(x.setup.Threads[i]) {
			list = append(list, i)
		}
	}
	return list
}

// step makes a step, and holds it against DOC.md's T2, T4, T5 and T6.
func (x *watch) step(thread int) api.Answer {
	x.t.Helper()
	going := slices.Contains(x.unfinished(), thread)
	published, complete, oldest := x.past.published, x.past.complete, x.oldest
	answer := x.w.Step(thread)
	log := x.w.Log(x.logged)
	x.logged += len(log)
	if len(log) > 1 || answer.Access != (len(log) == 1) || answer.Access && log[0].Thread != thread {
		x.t.Fatalf("%+v by %+v", answer, log)
	}
	news := x.hear()
	switch answer.Kind {
	case api.AnsNone:
		if going || len(news) > 0 {
			x.t.Fatalf("the thread %d: %+v, %+v", thread, answer, news)
		}
	case api.AnsWait:
		if published == complete || len(news) > 0 {
			x.t.Fatalf("the thread %d waits, with %d published and %d complete; %+v", thread, published, complete, news)
		}
		x.waiting[thread] = struct{}{}
		if len(x.waiting) == len(x.unfinished()) {
			x.t.Fatalf("all that aren't through wait: %+v", x.w.Threads())
		}
		x.rounds++
	default:
		clear(x.waiting)
	}
	x.owes(thread, oldest)
	return answer
}

// hear goes through what came into the history.
func (x *watch) hear() []api.Event {
	x.t.Helper()
	news := x.w.Events(x.heard)
	x.heard += len(news)
	for _, e := range news {
		if e.Kind == api.EvEnded {
			x.ends[e.Err]++
			x.holdsEnd(e)
		}
		if !x.past.take(e) {
			x.t.Fatalf("the event may not come: %+v", e)
		}
		if e.Kind == api.EvPublished {
			x.entries[e.Stamp] = x.past.txs[e.Tx]
			if e.Sig != sig.Of(cellsOf(x.past.txs[e.Tx], api.EvWrote)...) {
				x.t.Fatalf("the entry %d is of other cells: %+v", e.Stamp, x.past.txs[e.Tx].events)
			}
		}
	}
	return news
}

// owes: T5: the oldest entry is complete within so many steps of its thread.
func (x *watch) owes(thread int, was int64) {
	x.t.Helper()
	if was > 0 && x.entries[was].thread == thread {
		x.owed++
	}
	x.most = max(x.most, x.owed)
	x.oldest = 0
	if x.past.published > x.past.complete {
		x.oldest = x.past.complete + 1
	}
	if x.oldest != was {
		x.owed = 0
		return
	}
	if c := x.setup.Config; was > 0 && x.owed >= c.Writes+c.Ring*(api.SigWords+1)+2 {
		x.t.Fatalf("the entry %d isn't complete behind %d steps of its thread", was, x.owed)
	}
}

// cellsOf are the cells of a transaction's events of a kind, but for those read that were its own.
func cellsOf(x *tx, kind int) []int {
	var list []int
	for _, e := range x.events {
		if e.Kind == kind && !e.Own && !slices.Contains(list, e.Cell) {
			list = append(list, e.Cell)
		}
	}
	return list
}

// holdsEnd: T2: why a transaction ended.
func (x *watch) holdsEnd(e api.Event) {
	x.t.Helper()
	own, c := x.past.txs[e.Tx], x.setup.Config
	reads, writes := cellsOf(own, api.EvRead), cellsOf(own, api.EvWrote)
	right := own.stamp == 0
	switch e.Err {
	case api.OK:
		right = right && len(writes) == 0
	case api.ErrConflict:
		met := false
		for stamp := e.Start + 1; stamp <= x.past.published; stamp++ {
			met = met || sig.Meets(e.Sig, sig.Of(cellsOf(x.entries[stamp], api.EvWrote)...))
		}
		right = right && met
	case api.ErrOverrun:
		right = right && x.past.published-e.Start > int64(c.Ring)
	case api.ErrTooBig:
		right = right && len(writes) == c.Writes
	case api.ErrStampsSpent:
		right = right && len(writes) > 0 && x.past.published == c.Stamps
	case api.ErrBadProgram, api.ErrOwn:
		// These are held against a run alone.
	default:
		right = false
	}
	// It may have ended at the read of one cell more.
	if known := sig.Of(reads...); !right || sig.Union(known, e.Sig) != e.Sig || len(sig.Bits(e.Sig)) > len(sig.Bits(known))+1 {
		x.t.Fatalf("%+v: it ended with %+v, with %d published", own, e, x.past.published)
	}
}

// lasts are, by their numbers, the last transactions of jobs that are over, with the jobs' places.
func (x *watch) lasts() map[int][2]int {
	list := map[int][2]int{}
	for thread := range x.setup.Threads {
		var own []int
		for _, one := range x.past.txs {
			if one.thread == thread {
				own = append(own, one.number)
			}
		}
		for i, o := range x.w.Outcomes(thread) {
			list[own[o.Tries-1]] = [2]int{thread, i}
			own = own[o.Tries:]
		}
		// What is left is of the job at hand.
		if want := x.w.Threads()[thread].Try; len(own) != want && len(own) != want-1 {
			x.t.Fatalf("the thread %d: %d transactions at the try %d", thread, len(own), want)
		}
	}
	return list
}

// alone: T2, T3: a job that is over ends just so, tells and leaves just that, where it runs whole at its place in the order.
func (x *watch) alone() {
	x.t.Helper()
	lasts := x.lasts()
	cells := make([]int64, len(x.w.Cells()))
	for _, one := range x.past.ordered() {
		before := slices.Clone(cells)
		one.run(cells)
		at, ends := lasts[one.number]
		if !ends {
			continue
		}
		got := x.w.Outcomes(at[0])[at[1]]
		if got.Err == api.ErrConflict || got.Err == api.ErrOverrun || got.Err == api.ErrStampsSpent {
			continue
		}
		want := x.runs(x.setup.Threads[at[0]][at[1]], before)
		if got.Err != want.Err || !slices.Equal(got.Tells, want.Tells) || !slices.Equal(before, cells) {
			x.t.Fatalf("the job %v: %+v, and cells %v; alone: %+v, %v", at, got, cells, want, before)
		}
	}
}

// runs runs a job alone over these cells, which are what it leaves then.
func (x *watch) runs(j api.Job, cells []int64) api.Outcome {
	x.t.Helper()
	c := x.setup.Config
	c.Stamps = api.MaxStamp
	m, _ := mem.New(len(cells), c.Ring)
	for i, v := range cells {
		m.Store(99, api.Addr{Kind: api.AddrCell, I: i}, v)
	}
	one, _ := prog.New(c, x.setup.Programs[j.Program], j.Args)
	for range 20000 {
		one.Step(m, 0)
		if o, over := one.Outcome(); over {
			for i := range cells {
				cells[i], _ = m.Peek(api.Addr{Kind: api.AddrCell, I: i})
			}
			return o
		}
	}
	x.t.Fatalf("alone it isn't over: %+v", j)
	return api.Outcome{}
}

// P22.6 (DOC.md's T1, T2, T4, T5, T6): random setups and schedules.
func TestWhole(t *testing.T) {
	seed := strewn(63)
	ends, again, rounds, most := map[api.Errno]int{}, 0, 0, 0
	for range 1200 {
		x := watched(t, seed.setup())
		for i, thread := range seed.schedule(len(x.setup.Threads), 100+seed.below(700)) {
			x.step(thread)
			if i%97 == 0 {
				holdsTogether(t, x.w)
				for _, one := range x.unfinished() {
					x.step(one)
				}
			}
		}
		holdsTogether(t, x.w)
		x.alone()
		for why, count := range x.ends {
			ends[why] += count
		}
		for i := range x.setup.Threads {
			for _, o := range x.w.Outcomes(i) {
				if o.Tries > 1 {
					again++
				}
			}
		}
		rounds, most = rounds+x.rounds, max(most, x.most)
	}
	for _, why := range []api.Errno{api.OK, api.ErrConflict, api.ErrOverrun, api.ErrTooBig, api.ErrStampsSpent, api.ErrBadProgram, api.ErrOwn} {
		if ends[why] < 30 {
			t.Errorf("just %d ended with the error %d", ends[why], why)
		}
	}
	if again < 100 || rounds < 1000 || most < 20 {
		t.Errorf("just %d tried again, %d waits; the most steps to an entry's end: %d", again, rounds, most)
	}
}

// busy is a setup whose jobs write many cells that others read: entries wait for one another.
func (s *strewn) busy(t *testing.T) api.Setup {
	t.Helper()
	c := api.Config{Raw: 24, Ring: 1 + s.below(16), Writes: 1 + s.below(24), Stamps: api.MaxStamp, Multi: s.below(4) > 0, Tries: 1 + s.below(255)}
	setup := api.Setup{Config: c}
	few := 6 + s.below(19)
	for range 1 + s.below(16) {
		var lines []string
		for range 1 + s.below(c.Writes) {
			cell := fmt.Sprintf("push8 %d", s.below(few))
			if s.below(6) == 0 {
				lines = append(lines, cell, cell, "load", "push8 1", "add", "store")
				continue
			}
			lines = append(lines, cell, "arg 0", "store")
		}
		setup.Programs = append(setup.Programs, program(t, append(lines, "commit")...))
	}
	for range 2 + s.below(7) {
		var jobs []api.Job
		for range 1 + s.below(12) {
			jobs = append(jobs, job(s.below(len(setup.Programs)), int64(s.below(100))))
		}
		setup.Threads = append(setup.Threads, jobs)
	}
	return setup
}

// P22.6 (DOC.md's T1, T2, T4, T5, T6): the same where many publish and wait, with all thread and job numbers; all come through, where none is left alone for ever.
func TestBusy(t *testing.T) {
	seed := strewn(64)
	rounds, most := 0, 0
	for range 60 {
		x := watched(t, seed.busy(t))
		for i, thread := range seed.schedule(len(x.setup.Threads), 1500) {
			x.step(thread)
			if i%301 == 0 {
				holdsTogether(t, x.w)
			}
		}
		for range 20000 {
			left := x.unfinished()
			if len(left) == 0 {
				break
			}
			one := left[seed.below(len(left))]
			for range 1 + seed.below(40) {
				x.step(one)
			}
		}
		if left := x.unfinished(); len(left) != 0 {
			t.Fatalf("these aren't through: %v", left)
		}
		holdsTogether(t, x.w)
		x.alone()
		if !slices.Equal(x.w.Cells(), x.w.Finished()) {
			t.Fatalf("all are through, but Finished is %v, not %v", x.w.Finished(), x.w.Cells())
		}
		rounds, most = rounds+x.rounds, max(most, x.most)
	}
	if rounds < 1000 || most < 24 {
		t.Errorf("just %d waits; the most steps to an entry's end: %d", rounds, most)
	}
}

// P22.6 (T5): whatever others do, behind so many steps of its own thread alone the oldest entry is complete; others' steps between change nothing of that.
func TestOldest(t *testing.T) {
	seed := strewn(65)
	found := 0
	for range 150 {
		x := watched(t, seed.busy(t))
		c := x.setup.Config
		for _, thread := range seed.schedule(len(x.setup.Threads), 60+seed.below(600)) {
			x.step(thread)
		}
		if x.oldest == 0 {
			continue
		}
		found++
		oldest, owner := x.oldest, x.entries[x.oldest].thread
		for range c.Writes + c.Ring*(api.SigWords+1) + 2 - x.owed {
			for range seed.below(5) {
				x.step((owner + 1 + seed.below(len(x.setup.Threads)-1)) % len(x.setup.Threads))
			}
			x.step(owner)
		}
		if x.past.complete < oldest {
			t.Fatalf("the entry %d isn't complete: %+v", oldest, x.w.Ring())
		}
	}
	if found < 30 {
		t.Errorf("just %d entries were under way", found)
	}
}

// P22.6 (T6): a step that is answered by AnsWait changes nothing: a world in which such steps weren't asked for comes to the same.
func TestWaitsChangeNothing(t *testing.T) {
	seed := strewn(66)
	waits := 0
	for i := range 300 {
		s := seed.setup()
		if i%3 == 0 {
			s = seed.busy(t)
		}
		w, other := made(t, s), made(t, s)
		// The moments of the one, by those of the other.
		var moments []int
		made := 0
		for _, thread := range seed.schedule(len(s.Threads), 100+seed.below(900)) {
			answer := step(t, w, thread)
			if answer.Kind == api.AnsWait {
				waits++
				made++
				continue
			}
			if got := step(t, other, thread); got != answer {
				t.Fatalf("%+v, not %+v", got, answer)
			}
			if answer.Kind != api.AnsNone {
				moments = append(moments, made)
				made++
			}
		}
		got, want := lookAt(other), lookAt(w)
		for i := range got.events {
			got.events[i].At = moments[got.events[i].At]
		}
		for i := range got.threads {
			got.threads[i].Steps += want.threads[i].Waits
			got.threads[i].Waits += want.threads[i].Waits
		}
		got.log, got.touched = want.log, want.touched
		if !sameLook(got, want) {
			t.Fatalf("%+v, not %+v", got, want)
		}
	}
	if waits < 1000 {
		t.Errorf("just %d waits", waits)
	}
}

// P22.6: the same setup and the same threads that are asked to step: the same answers, whatever else was asked.
func TestSame(t *testing.T) {
	seed := strewn(67)
	for i := range 200 {
		s := seed.setup()
		if i%4 == 0 {
			s = seed.busy(t)
		}
		w, other := made(t, s), made(t, s)
		for i, thread := range seed.schedule(len(s.Threads), 400) {
			if got, want := other.Step(thread), step(t, w, thread); got != want {
				t.Fatalf("%+v, not %+v", got, want)
			}
			if i%10 == 0 && !sameLook(lookAt(w), lookAt(w)) {
				t.Fatalf("asked twice, it tells otherwise: %+v", lookAt(w))
			}
		}
		if got, want := lookAt(other), lookAt(w); !sameLook(got, want) {
			t.Fatalf("%+v, not %+v", got, want)
		}
	}
}
