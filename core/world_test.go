package core_test

import (
	"testing"

	"carousel/api"
	"carousel/core"
	"carousel/mem"
	"carousel/ring"
	"carousel/sig"
)

// actor is a thread that makes one transaction behind the other.
type actor struct {
	x     *core.Tx
	heard int
	reads []api.Write // what it was told of cells that it hadn't written itself
	want  api.Want    // what it asked for last
	wrote int         // how many cells it wrote ahead of that
}

// crowd are actors over one memory, a step at a time.
type crowd struct {
	t      *testing.T
	c      api.Config
	m      *mem.Mem
	cells  int
	seed   *strewn
	actors []*actor
	after  [][]int64 // the cells behind each stamp, from 0 on
	sigs   []api.Sig // the signature of each stamp
	ends   map[api.Errno]int
	waits  int
}

func newCrowd(t *testing.T, seed *strewn, c api.Config, cells, actors int) *crowd {
	t.Helper()
	w := &crowd{t: t, c: c, m: memory(t, cells, c.Ring), cells: cells, seed: seed, ends: map[api.Errno]int{}}
	w.after = [][]int64{make([]int64, cells)}
	w.sigs = []api.Sig{{}}
	for range actors {
		w.actors = append(w.actors, &actor{x: made(t, c)})
	}
	return w
}

// idle: is nothing of it under way?
func (a *actor) idle() bool { return a.x.Phase() == none || a.x.Phase() == live }

// act makes a step of an actor; it begins something, if nothing is under way.
func (w *crowd) act(thread int) api.Answer {
	w.t.Helper()
	a := w.actors[thread]
	before, accesses := lookFrom(a.x, a.heard), w.m.Count()
	late := ring.Complete(w.m) < ring.Newest(w.m)
	var answer api.Answer
	if a.idle() {
		a.want, a.wrote = w.wanted(before.phase), len(before.writes)
		answer = a.x.Do(w.m, thread, a.want)
	} else {
		answer = a.x.Step(w.m, thread)
	}
	log := w.m.Log(accesses)
	if len(log) > 1 || answer.Access != (len(log) == 1) || answer.Kind == api.AnsNone || answer.Err == api.ErrArg {
		w.t.Fatalf("%+v, phase %d: %+v by %+v", w.c, before.phase, answer, log)
	}
	if answer.Kind == api.AnsWait {
		w.waits++
		if now := lookFrom(a.x, a.heard); !now.same(before) || !late {
			w.t.Fatalf("%+v: it waits, was %+v, and is %+v; late: %v", w.c, before, now, late)
		}
	}
	for _, e := range a.x.Told(a.heard) {
		a.heard++
		w.hear(a, e, before)
	}
	return answer
}

// wanted is something that may be wanted.
func (w *crowd) wanted(phase int) api.Want {
	if phase == none {
		return wantBegin()
	}
	switch n := w.seed.below(40); {
	case n == 0:
		return wantAbort([]api.Errno{api.ErrOwn, api.ErrBadProgram}[w.seed.below(2)])
	case n < 12:
		return wantCommit()
	case n < 25:
		return wantWrite(w.seed.below(w.cells), int64(1+w.seed.below(1<<20)))
	}
	return wantRead(w.seed.below(w.cells))
}

// hear holds an event against all that was published so far.
func (w *crowd) hear(a *actor, e api.Event, before look) {
	w.t.Helper()
	switch e.Kind {
	case api.EvOpened:
		a.reads = nil
	case api.EvBegun:
		w.sound(a, e.Start, e.Seen)
	case api.EvRead:
		if !e.Own {
			a.reads = append(a.reads, api.Write{Cell: e.Cell, Value: e.Value})
		}
		w.sound(a, e.Start, e.Seen)
	case api.EvPublished:
		w.holds(a, e.Stamp-1)
		if e.Stamp != int64(len(w.after)) || ring.Newest(w.m) != e.Stamp {
			w.t.Fatalf("%+v: %+v behind %d", w.c, e, len(w.after)-1)
		}
		cells := append([]int64(nil), w.after[e.Stamp-1]...)
		for _, x := range a.x.Writes() {
			cells[x.Cell] = x.Value
		}
		w.after, w.sigs = append(w.after, cells), append(w.sigs, e.Sig)
	case api.EvComplete:
		if ring.Complete(w.m) != e.Stamp {
			w.t.Fatalf("%+v: %+v, and %d is complete", w.c, e, ring.Complete(w.m))
		}
	case api.EvEnded:
		w.ends[e.Err]++
		w.rightly(a, e, before)
	}
}

// sound: all entries up to the start are complete, and all that was read held when the newest one was that which was seen.
func (w *crowd) sound(a *actor, start, seen int64) {
	w.t.Helper()
	if start > seen || start > ring.Complete(w.m) || seen > ring.Newest(w.m) {
		w.t.Fatalf("%+v: start %d, seen %d, complete %d, newest %d", w.c, start, seen, ring.Complete(w.m), ring.Newest(w.m))
	}
	w.holds(a, seen)
}

// holds: what was read is what stands in the cells behind a stamp.
func (w *crowd) holds(a *actor, stamp int64) {
	w.t.Helper()
	for _, r := range a.reads {
		if w.after[stamp][r.Cell] != r.Value {
			w.t.Fatalf("%+v: %+v was read, but behind %d it is %d", w.c, r, stamp, w.after[stamp][r.Cell])
		}
	}
}

// rightly: T2 of an end.
func (w *crowd) rightly(a *actor, e api.Event, before look) {
	w.t.Helper()
	now := ring.Newest(w.m)
	right := false
	switch e.Err {
	case api.OK:
		right = a.want.Kind == api.WantCommit && a.wrote == 0
	case api.ErrConflict:
		for s := e.Start + 1; s <= now; s++ {
			right = right || sig.Meets(w.sigs[s], e.Sig)
		}
	case api.ErrOverrun:
		right = now > e.Start+int64(w.c.Ring)
	case api.ErrTooBig:
		right = a.want.Kind == api.WantWrite && a.wrote == w.c.Writes
		for _, x := range before.writes {
			right = right && x.Cell != a.want.Cell
		}
	case api.ErrStampsSpent:
		right = now == w.c.Stamps
	case api.ErrOwn, api.ErrBadProgram:
		right = a.want.Kind == api.WantAbort && a.want.Code == int(e.Err)
	}
	var cells []int
	for _, r := range a.reads {
		cells = append(cells, r.Cell)
	}
	if before.phase == reading {
		cells = append(cells, a.want.Cell)
	}
	if !right || e.Sig != sig.Of(cells...) || e.Sig != before.reads || e.Start != before.start || e.Seen != before.seen {
		w.t.Fatalf("%+v: %+v, newest %d, wanted %+v, before %+v", w.c, e, now, a.want, before)
	}
}

// settle lets all that is under way come to its end: in each turn someone moves on.
func (w *crowd) settle() {
	w.t.Helper()
	for range 10000 {
		busy, movedOn := false, false
		for i, a := range w.actors {
			if !a.idle() {
				busy = true
				movedOn = w.act(i).Kind != api.AnsWait || movedOn
			}
		}
		if !busy {
			return
		}
		if !movedOn {
			w.t.Fatalf("%+v: all wait", w.c)
		}
	}
	w.t.Fatalf("%+v: it never ends", w.c)
}

// heldAtTheEnd: all is complete, and the cells hold what was published, one behind the other.
func (w *crowd) heldAtTheEnd() {
	w.t.Helper()
	last := int64(len(w.after) - 1)
	if ring.Newest(w.m) != last || ring.Complete(w.m) != last {
		w.t.Fatalf("%+v: newest %d, complete %d, of %d", w.c, ring.Newest(w.m), ring.Complete(w.m), last)
	}
	for cell, v := range w.after[last] {
		if got := peek(w.t, w.m, cellAt(cell)); got != v {
			w.t.Fatalf("%+v: cell %d is %d, not %d", w.c, cell, got, v)
		}
	}
}

// P12.5, T2: transactions beside each other over one memory, of both kinds of configurations: each step makes one access at most, one that waits changes nothing, each end has its reason; and what is read and published is as if each were alone.
func TestBesideEachOther(t *testing.T) {
	seed := strewn(9)
	for _, multi := range []bool{false, true} {
		ends := map[api.Errno]int{}
		entries, waits := 0, 0
		for round := range 300 {
			c := api.Config{Ring: 1 + round%5, Writes: 1 + seed.below(5), Stamps: int64(1 + seed.below(60)), Multi: multi}
			if round%8 == 0 {
				c.Ring, c.Stamps = 1+seed.below(16), 1<<40
			}
			w := newCrowd(t, &seed, c, 1+seed.below(30), 2+seed.below(4))
			// Some are slow: the others go round the ring meanwhile.
			slow := 1 + seed.below(8)
			for range 1500 {
				i := seed.below(len(w.actors))
				if i > 0 || seed.below(slow) == 0 {
					w.act(i)
				}
			}
			w.settle()
			w.heldAtTheEnd()
			for why, n := range w.ends {
				ends[why] += n
			}
			entries, waits = entries+len(w.after)-1, waits+w.waits
		}
		for _, why := range []api.Errno{api.OK, api.ErrConflict, api.ErrOverrun, api.ErrTooBig, api.ErrStampsSpent, api.ErrOwn, api.ErrBadProgram} {
			if ends[why] < 20 {
				t.Errorf("multi %v: just %d ended with error %d", multi, ends[why], why)
			}
		}
		if entries < 5000 || waits < 2000 {
			t.Errorf("multi %v: just %d entries and %d waits", multi, entries, waits)
		}
	}
}

// R4: the same calls get the same answers.
func TestSameAgain(t *testing.T) {
	run := func() *crowd {
		seed := strewn(6)
		w := newCrowd(t, &seed, api.Config{Ring: 3, Writes: 3, Stamps: 500, Multi: true}, 6, 4)
		for range 3000 {
			w.act(seed.below(4))
		}
		return w
	}
	one, two := run(), run()
	for i := range one.actors {
		unchanged(t, one.actors[i].x, lookAt(two.actors[i].x))
	}
	if len(one.after) != len(two.after) || one.m.Count() != two.m.Count() {
		t.Error("two runs differ")
	}
}
