package sched_test

import (
	"math"
	"slices"
	"strings"
	"testing"

	"carousel/api"
	"carousel/place"
	"carousel/sched"
)

// refused: there is no such world.
func refused(t *testing.T, s api.Setup, want api.Errno) {
	t.Helper()
	if w, why := sched.New(s); w != nil || why != want {
		t.Errorf("New(%+v): %v, error %d, not %d", s, w, why, want)
	}
}

// wrongSetups are such as may not be for a reason beside the configuration, each for one.
func wrongSetups(c api.Config) []api.Setup {
	with := func(jobs ...api.Job) api.Setup {
		return api.Setup{Config: c, Programs: []string{"", "\x00"}, Threads: [][]api.Job{{}, {job(1)}, jobs}}
	}
	list := []api.Setup{
		{Config: c, Threads: make([][]api.Job, api.MaxThreads+1)},
		{Config: c, Threads: make([][]api.Job, 256)},
		{Config: c, Programs: make([]string, api.MaxPrograms+1)},
		{Config: c, Programs: make([]string, 256)},
		{Config: c, Programs: []string{"", strings.Repeat("\x00", api.MaxCode+1)}},
		{Config: c, Programs: []string{strings.Repeat("\x00", 65536), ""}},
		with(make([]api.Job, api.MaxJobs+1)...),
		with(make([]api.Job, 256)...),
		with(job(1), job(0, 1, 2, 3, 4, 5)),
		with(job(1), job(0, make([]int64, 256)...)),
		// A job of no program at all.
		{Config: c, Threads: [][]api.Job{{job(0)}}},
	}
	for _, place := range []int{-1, 2, 3, 16, -2, 256, 1 << 32, math.MinInt, math.MaxInt} {
		list = append(list, with(job(place)), with(job(0), job(1), job(place)))
	}
	return list
}

// P22.1: one more of each, and what is no program's place.
func TestRefused(t *testing.T) {
	for _, s := range wrongSetups(with(1)) {
		refused(t, s, api.ErrArg)
	}
	// Places from 0 to the last one, and the greatest numbers, may be.
	long := strings.Repeat("\x00", api.MaxCode)
	for count := 1; count <= api.MaxPrograms; count++ {
		for place := range count {
			made(t, api.Setup{Config: with(1), Programs: slices.Repeat([]string{long}, count), Threads: [][]api.Job{slices.Repeat([]api.Job{job(place, 1, 2, 3, 4)}, api.MaxJobs)}})
		}
		refused(t, api.Setup{Config: with(1), Programs: make([]string, count), Threads: [][]api.Job{{job(count)}}}, api.ErrArg)
	}
	for count := range api.MaxThreads + 1 {
		made(t, api.Setup{Config: with(1), Programs: []string{""}, Threads: slices.Repeat([][]api.Job{{job(0)}}, count)})
	}
	// What is wrong with the last of many.
	last := api.Setup{Config: with(1), Programs: slices.Repeat([]string{""}, api.MaxPrograms), Threads: slices.Repeat([][]api.Job{{job(0)}}, api.MaxThreads)}
	made(t, last)
	last.Threads[7] = slices.Repeat([]api.Job{job(15)}, api.MaxJobs)
	made(t, last)
	last.Threads[7][31].Program = 16
	refused(t, last, api.ErrArg)
	last.Threads[7][31] = job(15, 1, 2, 3, 4, 5)
	refused(t, last, api.ErrArg)
	last.Threads[7][31] = job(15)
	last.Programs[15] = long + "\x00"
	refused(t, last, api.ErrArg)
	// Spare room holds nothing.
	made(t, api.Setup{Config: with(1), Programs: make([]string, 16, 40), Threads: [][]api.Job{make([]api.Job, 32, 99), append(make([]api.Job, 0, 40), api.Job{Args: make([]int64, 4, 9)})}})
}

// P22.1: what chapter 19's Check answers, ahead of all else that is wrong.
func TestWrongConfigs(t *testing.T) {
	for _, wrong := range []func(c *api.Config){
		func(c *api.Config) { c.Raw = 0 }, func(c *api.Config) { c.Raw = -1 }, func(c *api.Config) { c.Raw = 65 }, func(c *api.Config) { c.Raw = math.MinInt }, func(c *api.Config) { c.Raw = math.MaxInt },
		func(c *api.Config) { c.Ring = 0 }, func(c *api.Config) { c.Ring = -1 }, func(c *api.Config) { c.Ring = 17 },
		func(c *api.Config) { c.Writes = 0 }, func(c *api.Config) { c.Writes = -1 }, func(c *api.Config) { c.Writes = 25 },
		func(c *api.Config) { c.Stamps = 0 }, func(c *api.Config) { c.Stamps = -1 }, func(c *api.Config) { c.Stamps = 1<<40 + 1 },
		func(c *api.Config) { c.Tries = 0 }, func(c *api.Config) { c.Tries = -1 }, func(c *api.Config) { c.Tries = 256 },
		func(c *api.Config) { c.Regions = []api.Region{{Kind: 0, Cap: 1}} }, func(c *api.Config) { c.Regions = []api.Region{counters(1), {Kind: 5, Cap: 1}} },
		func(c *api.Config) { c.Regions = []api.Region{queueOf(-1)} }, func(c *api.Config) { c.Regions = []api.Region{chainOf(1), dictOf(17)} },
		func(c *api.Config) { c.Regions = slices.Repeat([]api.Region{counters(1)}, 9) },
		func(c *api.Config) { *c = api.Config{} },
	} {
		c := with(2, counters(1), chainOf(1))
		made(t, api.Setup{Config: c})
		wrong(&c)
		if place.Check(c) != api.ErrConfig {
			t.Fatalf("%+v", c)
		}
		refused(t, api.Setup{Config: c}, api.ErrConfig)
		refused(t, api.Setup{Config: c, Programs: []string{""}, Threads: [][]api.Job{{job(0)}}}, api.ErrConfig)
		for _, s := range wrongSetups(c) {
			refused(t, s, api.ErrConfig)
		}
	}
}

// P22.2, P22.3: numbers of threads that aren't there, in any world.
func TestNoSuchThread(t *testing.T) {
	for count := range api.MaxThreads + 1 {
		w := made(t, api.Setup{Config: with(1), Programs: []string{oneMore(t)}, Threads: slices.Repeat([][]api.Job{{job(0), job(0)}}, count)})
		for pass := range 2 {
			was := lookAt(w)
			for _, thread := range []int{math.MinInt, -9, -1, count, count + 1, count + 8, 256, 1 << 32, math.MaxInt} {
				if got := w.Step(thread); got != nothing() {
					t.Errorf("Step(%d) of %d threads: %+v", thread, count, got)
				}
				if got := w.Outcomes(thread); len(got) != 0 {
					t.Errorf("Outcomes(%d) of %d threads: %+v", thread, count, got)
				}
			}
			if got := lookAt(w); !sameLook(got, was) {
				t.Errorf("%+v, not %+v", got, was)
			}
			// The last one that is there.
			if count > 0 && pass == 0 {
				steps(t, w, count-1, movedBy(), moved())
				toEnd(t, w, count-1)
			}
		}
	}
}

// R1: a nil world, at each call.
func TestNilWorld(t *testing.T) {
	var w *sched.World
	for _, n := range []int{math.MinInt, -1, 0, 1, 7, math.MaxInt} {
		if got := w.Step(n); got != nothing() {
			t.Errorf("Step(%d): %+v", n, got)
		}
		if got := w.Outcomes(n); len(got) != 0 {
			t.Errorf("Outcomes(%d): %+v", n, got)
		}
		if got := w.Events(n); len(got) != 0 {
			t.Errorf("Events(%d): %+v", n, got)
		}
		if got := w.Log(n); len(got) != 0 {
			t.Errorf("Log(%d): %+v", n, got)
		}
	}
	if got := lookAt(w); !sameLook(got, look{}) {
		t.Errorf("%+v", got)
	}
}

// spoil writes over a list, and over its spare room.
func spoil[E any](list []E, with E) {
	for i := range list[:cap(list)] {
		list[:cap(list)][i] = with
	}
}

// own is a copy of a setup that shares no list with it, with spare room behind each.
func own(s api.Setup) api.Setup {
	s.Config.Regions = append(make([]api.Region, 0, 12), s.Config.Regions...)
	s.Programs = append(make([]string, 0, 20), s.Programs...)
	s.Threads = append(make([][]api.Job, 0, 12), s.Threads...)
	for i, jobs := range s.Threads {
		s.Threads[i] = append(make([]api.Job, 0, 40), jobs...)
		for k, j := range jobs {
			s.Threads[i][k].Args = append(make([]int64, 0, 9), j.Args...)
		}
	}
	return s
}

// spoilSetup writes over all lists of a setup.
func spoilSetup(s api.Setup) {
	for _, jobs := range s.Threads {
		for _, j := range jobs {
			spoil(j.Args, -55)
		}
		spoil(jobs, job(1, 77))
	}
	spoil(s.Threads, nil)
	spoil(s.Programs, "\xff")
	spoil(s.Config.Regions, dictOf(16))
}

// sameSetup: are both the same, with all their lists, and is their spare room as it was made?
func sameSetup(a, b api.Setup) bool {
	sameJobs := func(x, y []api.Job) bool {
		return slices.EqualFunc(x[:40], y[:40], func(i, j api.Job) bool {
			return i.Program == j.Program && slices.Equal(i.Args[:cap(i.Args)], j.Args[:cap(j.Args)])
		})
	}
	return slices.Equal(a.Config.Regions[:12], b.Config.Regions[:12]) && slices.Equal(a.Programs[:20], b.Programs[:20]) && slices.EqualFunc(a.Threads, b.Threads, sameJobs)
}

// R3: the setup that was handed in is written over afterwards: the world knows nothing of it, and wrote nothing there.
func TestHandedIn(t *testing.T) {
	seed := strewn(71)
	for i := range 200 {
		s := seed.setup()
		handed, kept := own(s), own(s)
		w, like := made(t, handed), made(t, s)
		if !sameSetup(handed, kept) {
			t.Fatalf("%+v, not %+v", handed, kept)
		}
		before := seed.below(100)
		for k, thread := range seed.schedule(len(s.Threads), 400) {
			if k == before*(i%2) {
				spoilSetup(handed)
			}
			if got, want := w.Step(thread), like.Step(thread); got != want {
				t.Fatalf("%+v, not %+v", got, want)
			}
		}
		if got, want := lookAt(w), lookAt(like); !sameLook(got, want) {
			t.Fatalf("%+v, not %+v", got, want)
		}
	}
}

// spoilAnswers writes over all lists that a world answers, and over their spare room.
func spoilAnswers(w *sched.World) {
	l := lookAt(w)
	for _, outcomes := range l.outcomes {
		for _, o := range outcomes {
			spoil(o.Tells, -66)
		}
		spoil(outcomes, outcome(9, api.ErrFull, 9, 9))
	}
	spoil(l.threads, api.Thread{Job: 99, Try: 99, Published: true})
	spoil(l.cells, -66)
	spoil(l.finished, -77)
	spoil(l.ring, api.Entry{Stamp: 99})
	spoil(l.touched, api.Touch{Loads: 99})
	for _, from := range []int{-1, 0, 1, len(l.events) / 2, len(l.events) - 1, len(l.events)} {
		spoil(w.Events(from), api.Event{Kind: 99, Tx: 99})
	}
	for _, from := range []int{-1, 0, 1, len(l.log) / 2, len(l.log) - 1, len(l.log)} {
		spoil(w.Log(from), api.Access{Thread: 99})
	}
}

// R3: what was answered is written over, behind steps: the world goes on as one of which nothing was asked.
func TestAnswered(t *testing.T) {
	seed := strewn(72)
	told := 0
	for range 150 {
		s := seed.setup()
		w, like := made(t, s), made(t, s)
		for i, thread := range seed.schedule(len(s.Threads), 300) {
			if got, want := w.Step(thread), like.Step(thread); got != want {
				t.Fatalf("%+v, not %+v", got, want)
			}
			if i%7 == 0 {
				spoilAnswers(w)
			}
		}
		spoilAnswers(w)
		if got, want := lookAt(w), lookAt(like); !sameLook(got, want) {
			t.Fatalf("%+v, not %+v", got, want)
		}
		for i := range s.Threads {
			for _, o := range w.Outcomes(i) {
				told += len(o.Tells)
			}
		}
	}
	if told < 50 {
		t.Errorf("just %d numbers were told", told)
	}
}

// R3: no two lists of one answer share memory: writing behind the end of one leaves the next one as it is.
func TestListsApart(t *testing.T) {
	s := api.Setup{Config: with(1), Programs: []string{program(t, "arg 0", "tell", "arg 1", "tell", "commit")}, Threads: [][]api.Job{{job(0, 1, 2), job(0, 3, 4), job(0, 5, 6)}}}
	w := made(t, s)
	toEnd(t, w, 0)
	list := w.Outcomes(0)
	spoil(list[0].Tells, -5)
	spoil(list[2].Tells, -5)
	if !slices.Equal(list[1].Tells, []int64{3, 4}) {
		t.Errorf("%+v", list)
	}
	outcomesAre(t, w, 0, outcome(1, api.OK, 1, 2), outcome(1, api.OK, 3, 4), outcome(1, api.OK, 5, 6))
}

// R4: worlds side by side go as each goes alone.
func TestApart(t *testing.T) {
	seed := strewn(73)
	for range 60 {
		var worlds, twins []*sched.World
		var plans [][]int
		for range 3 {
			s := seed.setup()
			worlds, twins = append(worlds, made(t, s)), append(twins, made(t, s))
			plans = append(plans, seed.schedule(len(s.Threads), 300))
		}
		answers := make([][]api.Answer, 3)
		for range 800 {
			at := seed.below(3)
			if done := len(answers[at]); done < len(plans[at]) {
				answers[at] = append(answers[at], worlds[at].Step(plans[at][done]))
			}
		}
		for i, w := range twins {
			for k, want := range answers[i] {
				if got := w.Step(plans[i][k]); got != want {
					t.Fatalf("%+v, not %+v", got, want)
				}
			}
			if got, want := lookAt(worlds[i]), lookAt(w); !sameLook(got, want) {
				t.Fatalf("%+v, not %+v", got, want)
			}
		}
	}
}
