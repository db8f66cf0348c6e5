package history_test

import (
	"slices"
	"strings"
	"testing"

	"carousel/api"
	"carousel/asm"
	"carousel/history"
	"carousel/sched"
)

// texts are programs over the plain cells and over a counter row 0, a queue 1, a dict 2 and a chain 3.
func texts() []string {
	return []string{
		"push8 0; load; push8 1; add; push8 0; swap; store; commit",
		"arg 0; load; arg 1; load; add; tell; commit",
		"push8 0; push8 0; load; arg 0; sub; store; push8 1; push8 1; load; arg 0; add; store; commit",
		"arg 0; arg 1; store; arg 0; load; tell; arg 0; arg 2; store; arg 0; load; tell; commit",
		"push8 2; load; push8 3; load; push8 2; load; tell; tell; tell; commit",
		"push8 0; load; tell; arg 1; arg 2; store; push8 1; load; tell; push8 2; load; tell; commit",
		"arg 0; arg 1; cadd 0; drop; tell; arg 1; cget 0; drop; tell; commit",
		"arg 2; cput 1; drop; drop; clen 1; drop; tell; commit",
		"cget 1; drop; push8 0; swap; store; commit",
		"arg 0; arg 1; cput 2; drop; tell; arg 2; cdel 2; drop; tell; commit",
		"arg 1; cget 2; drop; arg 0; swap; store; commit",
		"arg 0; cadd 3; drop; drop; arg 1; cnext 3; drop; tell; commit",
		"cleast 3; drop; cdel 3; drop; drop; clen 3; drop; tell; commit",
		"push8 1; load; drop; arg 0; arg 1; store; abort",
		"arg 0; load; drop; arg 0; arg 1; store; add",
		"push8 0; arg 0; store; push8 1; arg 0; store; push8 2; arg 0; store; push8 3; arg 0; store; commit",
		"push8 6; again: dup; load; drop; dup; arg 0; store; push8 1; sub; dup; jumpz out; jump again; out: commit",
		"commit",
	}
}

// setup is any one of these programs.
func (s *strewn) setup(t *testing.T) api.Setup {
	t.Helper()
	c := api.Config{Raw: 1 + s.below(6), Ring: 1 + s.below(6), Writes: 1 + s.below(12), Stamps: 1000, Multi: s.below(3) > 0, Tries: 1 + s.below(9)}
	if s.below(6) == 0 {
		c.Stamps = int64(1 + s.below(6))
	}
	for kind := api.KindCounter; kind <= api.KindChain; kind++ {
		c.Regions = append(c.Regions, api.Region{Kind: kind, Cap: 1 + s.below(4)})
	}
	setup := api.Setup{Config: c}
	all := texts()
	for range 1 + s.below(5) {
		text := all[s.below(len(all))]
		bytes, why, at := asm.Parse(strings.ReplaceAll(text, ";", "\n"))
		if why != api.OK {
			t.Fatalf("%q: error %d at %d", text, why, at)
		}
		setup.Programs = append(setup.Programs, bytes)
	}
	for range 2 + s.below(5) {
		var jobs []api.Job
		for range s.below(5) {
			jobs = append(jobs, api.Job{Program: s.below(len(setup.Programs)), Args: []int64{int64(s.below(4)), int64(s.below(4)), int64(s.below(4))}})
		}
		setup.Threads = append(setup.Threads, jobs)
	}
	return setup
}

// holdsWorld: P23.6: what a world tells is a history; its order is timely and legal, and what it comes to is what the world has finished.
func holdsWorld(t *testing.T, w *sched.World) []api.Event {
	t.Helper()
	h := w.Events(0)
	txs, why, at := history.Txs(h)
	if why != api.OK || at != 0 || len(txs) != count(h, api.EvOpened, -1) {
		t.Fatalf("Txs of %+v: %+v, error %d at %d", h, txs, why, at)
	}
	order, why := history.Order(h)
	if why != api.OK || !isOrder(txs, order) {
		t.Fatalf("Order of %+v: %v, error %d", h, order, why)
	}
	if timely, why := history.Timely(h, order); !timely || why != api.OK {
		t.Fatalf("Timely of %+v in %v: %v, error %d", h, order, timely, why)
	}
	if legal, why := history.Legal(h, order); !legal || why != api.OK {
		t.Fatalf("Legal of %+v in %v: %v, error %d", h, order, legal, why)
	}
	want := w.Finished()
	if final, why := history.Final(h, len(want)); !slices.Equal(final, want) || why != api.OK {
		t.Fatalf("Final of %+v: %v, error %d, not %v", h, final, why, want)
	}
	return h
}

// stepped is a world of a setup, that has made so many steps at random; each time after some of them it holds.
func stepped(t *testing.T, seed *strewn, s api.Setup, steps int) *sched.World {
	t.Helper()
	w, why := sched.New(s)
	if why != api.OK {
		t.Fatalf("%+v: error %d", s, why)
	}
	at, haste := 0, 1+seed.below(20)
	for i := range steps {
		if seed.below(haste) == 0 {
			at = seed.below(len(s.Threads))
		}
		w.Step(at)
		if i%37 == 0 {
			holdsWorld(t, w)
		}
	}
	return w
}

// P23.6: histories of random worlds; all that a transaction may come to is among them, and all other orders are told as the words have it.
func TestWorlds(t *testing.T) {
	seed := strewn(85)
	all, ends := newTally(), map[api.Errno]int{}
	under, only, own, waits := 0, 0, 0, 0
	for i := range 800 {
		w := stepped(t, &seed, seed.setup(t), 20+seed.below(400))
		h := holdsWorld(t, w)
		txs := txsOf(h)
		for number, x := range txs {
			switch {
			case x.Ended < 0 && count(h, api.EvBegun, number) == 0:
				only++
			case x.Ended < 0:
				under++
			case x.Stamp == 0:
				ends[x.Err]++
			}
		}
		for _, e := range h {
			if e.Own {
				own++
			}
		}
		for _, thread := range w.Threads() {
			waits += thread.Waits
		}
		if i%8 > 0 {
			continue
		}
		// Two beside one another in the order change places; and any order; and one read that tells otherwise.
		order := orderOf(txs)
		lists := [][]int{seed.order(len(txs)), seed.order(len(txs) + 1)}
		for range 3 {
			if len(order) > 1 {
				at := seed.below(len(order) - 1)
				list := slices.Clone(order)
				list[at], list[at+1] = list[at+1], list[at]
				lists = append(lists, list)
			}
		}
		all.holds(t, h, seed.below(20), lists...)
		if len(h) > 0 {
			all.holds(t, seed.spoilt(h), seed.below(20), order)
		}
	}
	all.wants(t, 30)
	for _, why := range []api.Errno{api.OK, api.ErrConflict, api.ErrOverrun, api.ErrTooBig, api.ErrStampsSpent, api.ErrBadProgram, api.ErrOwn} {
		if ends[why] < 20 {
			t.Errorf("just %d ended with the error %d", ends[why], why)
		}
	}
	if min(under, only, own, waits) < 20 {
		t.Errorf("just %d under way, %d only opened, %d own reads, %d waits", under, only, own, waits)
	}
}

// P23.1: of a world's transactions is told what the world tells of its threads, its jobs and its ring.
func TestWorldsTxs(t *testing.T) {
	seed := strewn(86)
	for range 200 {
		s := seed.setup(t)
		w := stepped(t, &seed, s, 20+seed.below(600))
		txs, _, _ := history.Txs(w.Events(0))
		var newest int64
		for _, x := range txs {
			newest = max(newest, x.Stamp)
		}
		if ring := w.Ring(); newest > 0 && ring[len(ring)-1].Stamp != newest {
			t.Fatalf("%+v, but the ring has %+v", txs, ring)
		}
		for number, thread := range w.Threads() {
			own := slices.DeleteFunc(slices.Clone(txs), func(x api.Tx) bool { return x.Thread != number })
			for _, o := range w.Outcomes(number) {
				if last := own[o.Tries-1]; last.Ended < 0 || last.Err != o.Err {
					t.Fatalf("the thread %d: %+v, but %+v", number, last, o)
				}
				own = own[o.Tries:]
			}
			if n := len(own); thread.Published != (n > 0 && own[n-1].Stamp > 0) {
				t.Fatalf("the thread %d: %+v, but %+v", number, own, thread)
			}
		}
	}
}

// probed is a history without its reads, with one transaction more that reads these cells.
func probed(h []api.Event, cells []int64) []api.Event {
	h = slices.DeleteFunc(slices.Clone(h), func(e api.Event) bool { return e.Kind == api.EvRead })
	n := count(h, api.EvOpened, -1)
	h = append(h, opened(n), begun(n, 0))
	for cell, value := range cells {
		h = append(h, read(n, cell, value, 0))
	}
	// Moments don't matter here.
	for i := range h {
		h[i].At = 0
	}
	return h
}

// P23.6: in every order in which those that published stand by their stamps the cells in the end are Final's: one that reads them behind all others finds them so, and just so.
func TestEveryOrder(t *testing.T) {
	seed := strewn(87)
	other := 0
	for i := range 600 {
		h := seed.history(1+seed.below(6), 10+seed.below(40))
		if i%3 == 0 {
			h = stepped(t, &seed, seed.setup(t), 300).Events(0)
		}
		final, why := history.Final(h, 6)
		if why != api.OK {
			t.Fatalf("Final of %+v: error %d", h, why)
		}
		txs := txsOf(h)
		right, wrong := probed(h, final), probed(h, final)
		wrong[len(wrong)-1-seed.below(6)].Value++
		for range 5 {
			order := append(seed.order(len(txs)), len(txs))
			byChance := legalOf(right, txsOf(right), order)
			legalIs(t, right, byChance, order...)
			if !byChance {
				other++
			}
			// Those that published change places among one another.
			stamped := byStamps(txs)
			for at, number := range order {
				if number < len(txs) && txs[number].Stamp > 0 {
					order[at], stamped = stamped[0], stamped[1:]
				}
			}
			legalIs(t, right, true, order...)
			legalIs(t, wrong, false, order...)
		}
	}
	if other < 100 {
		t.Errorf("just %d orders came to other cells", other)
	}
}
