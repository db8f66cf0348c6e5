package sched_test

import (
	"cmp"
	"slices"
	"testing"

	"carousel/api"
	"carousel/mem"
	"carousel/place"
	"carousel/prog"
	"carousel/ring"
	"carousel/sched"
)

// twin is a world by the chapter's words, which reckons each answer anew from all that was.
type twin struct {
	m       *mem.Mem
	jobs    [][]*prog.Machine
	made    [][]int  // steps of each job
	answers [][2]int // thread and kind of each step that was one
	events  []api.Event
}

// twinOf is one of a setup.
func twinOf(t *testing.T, s api.Setup) *twin {
	t.Helper()
	count, _ := place.Cells(s.Config)
	m, why := mem.New(count, s.Config.Ring)
	if why != api.OK {
		t.Fatalf("error %d", why)
	}
	w := &twin{m: m}
	for _, jobs := range s.Threads {
		var list []*prog.Machine
		for _, j := range jobs {
			x, why := prog.New(s.Config, s.Programs[j.Program], j.Args)
			if why != api.OK {
				t.Fatalf("error %d", why)
			}
			list = append(list, x)
		}
		w.jobs = append(w.jobs, list)
		w.made = append(w.made, make([]int, len(jobs)))
	}
	return w
}

// at is how many of a thread's jobs are over.
func (w *twin) at(thread int) int {
	for i, x := range w.jobs[thread] {
		if _, over := x.Outcome(); !over {
			return i
		}
	}
	return len(w.jobs[thread])
}

// step makes one of a thread.
func (w *twin) step(thread int) api.Answer {
	if thread < 0 || thread >= len(w.jobs) || w.at(thread) == len(w.jobs[thread]) {
		return api.Answer{}
	}
	at := w.at(thread)
	x := w.jobs[thread][at]
	before := len(x.Told(0))
	answer := x.Step(w.m, thread)
	for _, e := range x.Told(0)[before:] {
		e.At, e.Thread, e.Tx = len(w.answers), thread, w.number(thread, e.Kind)
		w.events = append(w.events, e)
	}
	w.made[thread][at]++
	w.answers = append(w.answers, [2]int{thread, answer.Kind})
	return answer
}

// number is the Tx of a thread's next event.
func (w *twin) number(thread, kind int) int {
	count, last := 0, 0
	for _, e := range w.events {
		if e.Kind == api.EvOpened {
			if e.Thread == thread {
				last = count
			}
			count++
		}
	}
	if kind == api.EvOpened {
		return count
	}
	return last
}

// threads are how all stand.
func (w *twin) threads() []api.Thread {
	var list []api.Thread
	for i, jobs := range w.jobs {
		x := api.Thread{Job: w.at(i)}
		if x.Job < len(jobs) && w.made[i][x.Job] > 0 {
			x.Try, x.Published = jobs[x.Job].Try()
		}
		for _, answer := range w.answers {
			if answer[0] == i {
				x.Steps++
				if answer[1] == api.AnsWait {
					x.Waits++
				}
			}
		}
		list = append(list, x)
	}
	return list
}

// entry is what a transaction that has published, and isn't complete, writes.
type entry struct {
	stamp  int64
	writes []api.Write
}

// pending are those entries, by rising stamps.
func (w *twin) pending() []entry {
	var list []entry
	for _, jobs := range w.jobs {
		for _, x := range jobs {
			_, over := x.Outcome()
			if _, published := x.Try(); over || !published {
				continue
			}
			for _, e := range x.Told(0) {
				if e.Kind == api.EvPublished {
					list = append(list, entry{e.Stamp, x.Writes()})
				}
			}
		}
	}
	slices.SortFunc(list, func(a, b entry) int { return cmp.Compare(a.stamp, b.stamp) })
	return list
}

// look is all that a world would tell.
func (w *twin) look() look {
	l := look{threads: w.threads(), ring: ring.Entries(w.m), events: w.events, log: w.m.Log(0), touched: w.m.Touched()}
	for i, jobs := range w.jobs {
		var list []api.Outcome
		for _, x := range jobs[:w.at(i)] {
			o, _ := x.Outcome()
			list = append(list, o)
		}
		l.outcomes = append(l.outcomes, list)
	}
	count, _ := w.m.Sizes()
	for i := range count {
		v, _ := w.m.Peek(api.Addr{Kind: api.AddrCell, I: i})
		l.cells = append(l.cells, v)
	}
	l.finished = slices.Clone(l.cells)
	for _, e := range w.pending() {
		for _, x := range e.writes {
			l.finished[x.Cell] = x.Value
		}
	}
	return l
}

// beside makes the same steps of a world and of its twin; both must tell the same.
func beside(t *testing.T, w *sched.World, like *twin, schedule []int) {
	t.Helper()
	for i, thread := range schedule {
		if got, want := step(t, w, thread), like.step(thread); got != want {
			t.Fatalf("step %d, of the thread %d: %+v, not %+v", i, thread, got, want)
		}
		if i%5 != 0 {
			continue
		}
		if got, want := lookAt(w), like.look(); !sameLook(got, want) {
			t.Fatalf("behind the step %d: %+v, not %+v", i, got, want)
		}
	}
}

// P22.2 to P22.5: random setups and schedules, beside a world of the chapter's words.
func TestTwin(t *testing.T) {
	seed := strewn(62)
	for range 400 {
		s := seed.setup()
		beside(t, made(t, s), twinOf(t, s), seed.schedule(len(s.Threads), 30+seed.below(400)))
	}
}
