package prog_test

import (
	"cmp"
	"slices"
	"testing"

	"carousel/api"
	"carousel/mem"
	"carousel/prog"
	"carousel/ring"
)

// oneMore is a program that makes the plain cell 0 greater by 1, and tells what it was.
func oneMore(t *testing.T) string {
	t.Helper()
	return program(t, "push8 0", "push8 0", "load", "dup", "tell", "push8 1", "add", "store", "commit")
}

// ahead makes so many steps, each of which moves the job on.
func ahead(t *testing.T, x *prog.Machine, m *mem.Mem, count int) {
	t.Helper()
	for range count {
		if got := step(t, x, m, 3); got.Kind != api.AnsMoved {
			t.Fatalf("%+v", got)
		}
	}
}

// whole runs another job of a program to its end, with OK.
func whole(t *testing.T, c api.Config, m *mem.Mem, code string, args ...int64) {
	t.Helper()
	if o, over := toEnd(t, made(t, c, code, args...), m, 2000); !over || o.Err != api.OK || o.Tries != 1 {
		t.Fatalf("%x: %+v, %v", code, o, over)
	}
}

// P21.4 to P21.7: a conflict behind which there is a new try, and one at the last try.
func TestConflict(t *testing.T) {
	c := with(2)
	m := memory(t, c)
	x := made(t, c, oneMore(t))
	// It begins, and is ahead of its store; another one stores to the same cell.
	ahead(t, x, m, 9)
	stackIs(t, x, 0, 1)
	writesAre(t, x)
	whole(t, c, m, oneMore(t))
	ahead(t, x, m, 1)
	writesAre(t, x, api.Write{Cell: 0, Value: 1})
	first := []api.Event{opened(), begun(0, 0), read(0, 0, 0, 0), wrote(0, 1)}
	toldIs(t, x, first...)
	// It looks at the newest stamp, at the entry's head, at the word of its signature.
	steps(t, x, m, movedBy(), movedBy())
	tryIs(t, x, 1, false)
	steps(t, x, m, failedBy(api.ErrConflict))
	tryIs(t, x, 2, false)
	stackIs(t, x)
	writesAre(t, x)
	if o, over := x.Outcome(); over || o.Tries != 0 || o.Err != api.OK || len(o.Tells) != 0 {
		t.Errorf("Outcome between two tries: %+v, %v", o, over)
	}
	first = append(first, ended(api.ErrConflict, 0, 0, 0))
	toldIs(t, x, first...)
	// The new try has made no step, and begins anew; it forgets what the first one told.
	steps(t, x, m, movedBy(), movedBy())
	second := append(slices.Clone(first), opened(), begun(1, 1))
	toldIs(t, x, second...)
	good, other := made(t, c, oneMore(t)), memory(t, c)
	whole(t, c, other, oneMore(t))
	ahead(t, good, other, 9)
	whole(t, c, other, oneMore(t))
	toEnd(t, good, other, 200)
	endsAs(t, good, 2, api.OK, 2)
	tryIs(t, good, 2, true)
	cellsAre(t, other, 3, 0)
	// A further one writes the cell: the second try is the last.
	ahead(t, x, m, 8)
	stackIs(t, x, 0, 2)
	whole(t, c, m, oneMore(t))
	steps(t, x, m, moved(), movedBy(), movedBy(), failedBy(api.ErrConflict), nothing())
	endsAs(t, x, 2, api.ErrConflict)
	tryIs(t, x, 2, false)
	stackIs(t, x)
	writesAre(t, x)
	toldIs(t, x, append(second, read(0, 1, 1, 1), wrote(0, 2), ended(api.ErrConflict, 1, 1, 0))...)
	cellsAre(t, m, 2, 0)
}

// P21.4, P21.6: a conflict at a read: what lies on the stack at the end stays to be seen only where the job is over.
func TestConflictAtRead(t *testing.T) {
	for tries := 1; tries <= 3; tries++ {
		c := with(2)
		c.Tries = tries
		m := memory(t, c)
		x := made(t, c, program(t, "push8 9", "push8 0", "load", "push8 7", "push8 1", "load", "commit"))
		for try := 1; try <= tries; try++ {
			tryIs(t, x, try, false)
			for len(x.Stack()) < 4 {
				ahead(t, x, m, 1)
			}
			whole(t, c, m, oneMore(t))
			ahead(t, x, m, 3)
			stackIs(t, x, 9, int64(try-1), 7)
			steps(t, x, m, failedBy(api.ErrConflict))
		}
		steps(t, x, m, nothing())
		endsAs(t, x, tries, api.ErrConflict)
		stackIs(t, x, 9, int64(tries-1), 7)
	}
}

// P21.4: the same behind a ring that has gone round, and with a collection's call under way.
func TestOverrun(t *testing.T) {
	for tries := 1; tries <= 3; tries++ {
		c := with(3, queueOf(2))
		c.Ring, c.Tries = 1, tries
		m := memory(t, c)
		x := made(t, c, program(t, "push8 0", "load", "push8 5", "cput 0", "commit"))
		for try := 1; try <= tries; try++ {
			tryIs(t, x, try, false)
			for len(x.Stack()) < 2 {
				ahead(t, x, m, 1)
			}
			for range 2 {
				whole(t, c, m, program(t, "push8 1", "arg 0", "store", "commit"), int64(try))
			}
			steps(t, x, m, movedBy())
			stackIs(t, x, 0)
			steps(t, x, m, failedBy(api.ErrOverrun))
		}
		steps(t, x, m, nothing())
		endsAs(t, x, tries, api.ErrOverrun)
		stackIs(t, x, 0)
	}
}

// P21.4: behind an overrun the call that was under way is forgotten, too: the new try goes well from its beginning on.
func TestAgainBehindOverrun(t *testing.T) {
	c := with(3, queueOf(2))
	c.Ring = 1
	m := memory(t, c)
	x := made(t, c, program(t, "call sub", "push8 4", "tell", "commit", "sub: push8 0", "load", "tell", "push8 5", "cput 0", "ret"))
	for len(x.Stack()) < 1 || len(x.Told(0)) < 3 {
		ahead(t, x, m, 1)
	}
	ahead(t, x, m, 3)
	for range 2 {
		whole(t, c, m, oneMore(t))
	}
	for {
		if step(t, x, m, 3) == failedBy(api.ErrOverrun) {
			break
		}
	}
	tryIs(t, x, 2, false)
	stackIs(t, x)
	toEnd(t, x, m, 200)
	endsAs(t, x, 2, api.OK, 2, 4)
	stackIs(t, x, 0, 0)
	cellsAre(t, m, 2, 0, 0, 0, 1, 5, 0)
}

// P21.4: what ends a job at its first try, though there would be more.
func TestEndsAtOnce(t *testing.T) {
	c := with(4, queueOf(2))
	c.Tries, c.Writes = 255, 2
	for _, x := range []struct {
		lines []string
		why   api.Errno
		stack []int64
	}{
		{[]string{"push8 3", "push8 0", "push8 1", "store", "push8 1", "push8 1", "store", "push8 2", "push8 1", "store", "commit"}, api.ErrTooBig, []int64{3}},
		{[]string{"push8 3", "push8 0", "push8 1", "store", "push8 8", "cput 0", "commit"}, api.ErrTooBig, []int64{3}},
		{[]string{"push8 3", "push8 4", "abort"}, api.ErrOwn, []int64{3, 4}},
		{[]string{"push8 3", "add"}, api.ErrBadProgram, []int64{3}},
		{[]string{"push8 3", "push8 4", "cadd 0"}, api.ErrBadProgram, []int64{3, 4}},
	} {
		m := memory(t, c)
		job := made(t, c, program(t, x.lines...))
		var last api.Answer
		for last.Kind != api.AnsFailed {
			last = step(t, job, m, 3)
		}
		if last != failed(x.why) {
			t.Errorf("%v: %+v", x.lines, last)
		}
		steps(t, job, m, nothing(), nothing())
		endsAs(t, job, 1, x.why)
		tryIs(t, job, 1, false)
		stackIs(t, job, x.stack...)
		writesAre(t, job)
		cellsAre(t, m, make([]int64, 8)...)
		if events := job.Told(0); events[len(events)-1].Err != x.why || events[len(events)-1].Kind != api.EvEnded {
			t.Errorf("%v: %+v", x.lines, events)
		}
	}
	// As many cells as may be written, one of them twice.
	tells(t, c, program(t, "push8 0", "push8 1", "store", "push8 1", "push8 1", "store", "push8 0", "push8 2", "store", "push8 5", "tell", "commit"), nil, 5)
}

// P21.4: the last stamp is taken, and then there is none left; one that writes nothing needs none.
func TestStampsSpent(t *testing.T) {
	for stamps := int64(1); stamps <= 3; stamps++ {
		c := with(2)
		c.Stamps, c.Tries = stamps, 9
		m := memory(t, c)
		for range stamps {
			whole(t, c, m, oneMore(t))
		}
		x := made(t, c, program(t, "push8 1", "push8 1", "store", "push8 6", "tell", "push8 8", "commit"))
		ahead(t, x, m, 8)
		steps(t, x, m, failedBy(api.ErrStampsSpent), nothing())
		endsAs(t, x, 1, api.ErrStampsSpent)
		tryIs(t, x, 1, false)
		stackIs(t, x, 8)
		comesTo(t, made(t, c, program(t, "push8 0", "load", "tell", "commit")), m, api.OK, stamps)
		cellsAre(t, m, stamps, 0)
	}
}

// P21.4: a commit that waits for an entry that isn't complete, and then moves on.
func TestWaits(t *testing.T) {
	c := with(2)
	m := memory(t, c)
	one, other := made(t, c, program(t, "push8 1", "push8 5", "store", "commit")), made(t, c, program(t, "push8 0", "push8 6", "store", "push8 3", "commit"))
	ahead(t, one, m, 6)
	tryIs(t, one, 1, true)
	steps(t, other, m, movedBy(), movedBy(), moved(), moved(), moved(), moved(), movedBy())
	toldBefore := other.Told(0)
	steps(t, other, m, times(5, waitsBy())...)
	tryIs(t, other, 1, false)
	stackIs(t, other, 3)
	writesAre(t, other, api.Write{Cell: 0, Value: 6})
	toldIs(t, other, toldBefore...)
	if o, over := toEnd(t, one, m, 30); !over || o.Err != api.OK {
		t.Fatalf("%+v, %v", o, over)
	}
	steps(t, other, m, movedBy(), movedBy())
	tryIs(t, other, 1, true)
	toEnd(t, other, m, 30)
	endsAs(t, other, 1, api.OK)
	cellsAre(t, m, 6, 5)
}

// P21.5, P21.6: the greatest number of tries, and the one ahead of it.
func TestMostTries(t *testing.T) {
	for _, tries := range []int{1, 2, 3, 254, 255} {
		for _, win := range []bool{false, true} {
			c := with(1)
			c.Tries = tries
			m := memory(t, c)
			x := made(t, c, oneMore(t))
			for try := 1; try <= tries; try++ {
				tryIs(t, x, try, false)
				for len(x.Writes()) == 0 {
					ahead(t, x, m, 1)
				}
				if win && try == tries {
					toEnd(t, x, m, 50)
					break
				}
				whole(t, c, m, oneMore(t))
				for step(t, x, m, 3) != failedBy(api.ErrConflict) {
				}
			}
			if win {
				endsAs(t, x, tries, api.OK, int64(tries-1))
			} else {
				endsAs(t, x, tries, api.ErrConflict)
			}
			cellsAre(t, m, int64(tries))
			if events := x.Told(0); len(events) < 5*tries {
				t.Errorf("%d tries, %d events", tries, len(events))
			}
			toldIs(t, x, x.Told(0)...)
		}
	}
}

// whenOf is where a job that committed stands in the order of DOC.md's T1.
func whenOf(x *prog.Machine) [2]int64 {
	when := [2]int64{}
	for _, e := range x.Told(0) {
		switch e.Kind {
		case api.EvPublished:
			return [2]int64{e.Stamp, 0}
		case api.EvBegun, api.EvRead:
			when = [2]int64{e.Seen, 1}
		}
	}
	return when
}

// running is a job, and what it was made of.
type running struct {
	x    *prog.Machine
	code string
	args []int64
}

// allOver makes steps of jobs over one memory, in any order, till all are over; false: some weren't.
func allOver(t *testing.T, seed *strewn, m *mem.Mem, jobs []running) bool {
	t.Helper()
	haste := 1 + seed.below(20)
	at := 0
	for range 20000 {
		if seed.below(haste) == 0 {
			at = seed.below(len(jobs))
		}
		answer := step(t, jobs[at].x, m, at)
		if answer.Kind == api.AnsWait && ring.Newest(m) == ring.Complete(m) {
			t.Fatalf("%x waits for none", jobs[at].code)
		}
		if answer.Kind == api.AnsWait || answer.Kind == api.AnsNone {
			at = seed.below(len(jobs))
		}
		if !slices.ContainsFunc(jobs, func(j running) bool { _, over := j.x.Outcome(); return !over }) {
			return true
		}
	}
	return false
}

// P21.4, P21.9 (DOC.md's T3): of several jobs, in any order of steps, those that commit tell and leave what comes of their programs, run whole, one behind the other.
func TestTogether(t *testing.T) {
	seed := strewn(41)
	committed, again := 0, 0
	for range 1500 {
		c := seed.config()
		c.Tries, c.Stamps = 255, 1<<40
		m, state := memory(t, c), mustState(t, c)
		jobs := make([]running, 2+seed.below(5))
		for i := range jobs {
			code, args := seed.program(c), seed.args()
			jobs[i] = running{made(t, c, code, args...), code, args}
		}
		if !allOver(t, &seed, m, jobs) {
			continue
		}
		slices.SortStableFunc(jobs, func(a, b running) int {
			x, y := whenOf(a.x), whenOf(b.x)
			return cmp.Or(cmp.Compare(x[0], y[0]), cmp.Compare(x[1], y[1]))
		})
		for _, j := range jobs {
			o, _ := j.x.Outcome()
			if o.Err != api.OK {
				continue
			}
			committed++
			if o.Tries > 1 {
				again++
			}
			told, why, over := meant(c, j.code, j.args, state, 3000)
			if !over || why != api.OK || !slices.Equal(o.Tells, told) {
				t.Fatalf("%+v, %x: %+v, not %v (error %d, %v)", c, j.code, o, told, why, over)
			}
		}
		if !sameState(t, c, m, state) {
			t.Fatalf("%+v: the cells are %v, not of %v and %+v", c, cellsOf(t, m), state.Raw(), state.Shapes())
		}
	}
	if committed < 2000 || again < 200 {
		t.Errorf("just %d committed, %d of them not at their first try", committed, again)
	}
}

// P21.4: many that make one cell greater: each one counts.
func TestAllCount(t *testing.T) {
	for _, multi := range []bool{false, true} {
		for slots := 1; slots <= 4; slots++ {
			seed := strewn(42)
			for range 30 {
				c := with(1, counters(1))
				c.Tries, c.Ring, c.Multi = 255, slots, multi
				m := memory(t, c)
				jobs := make([]running, 6)
				for i := range jobs {
					code := oneMore(t)
					if i%2 == 0 {
						code = program(t, "push8 0", "push8 1", "cadd 0", "drop", "tell", "commit")
					}
					jobs[i] = running{made(t, c, code), code, nil}
				}
				if !allOver(t, &seed, m, jobs) {
					t.Fatalf("not over")
				}
				cellsAre(t, m, 3, 3)
				seen := map[int64]int{}
				for i, j := range jobs {
					o, _ := j.x.Outcome()
					if o.Err != api.OK || len(o.Tells) != 1 {
						t.Fatalf("%+v", o)
					}
					seen[o.Tells[0]*2+int64(i%2)]++
				}
				if len(seen) != 6 {
					t.Fatalf("one number was told twice: %v", seen)
				}
			}
		}
	}
}
