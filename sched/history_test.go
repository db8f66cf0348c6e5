package sched_test

import (
	"cmp"
	"slices"
	"testing"

	"carousel/api"
	"carousel/sched"
)

// tx is a transaction of a history, by the words of chapter 23.
type tx struct {
	number, thread int
	begun, done    int // moments; done -1: neither published nor ended
	stamp, seen    int64
	live, over     bool // behind EvBegun; behind EvEnded or EvComplete
	err            api.Errno
	events         []api.Event // of its own
}

// place is where it stands in the order of DOC.md's T1.
func (x *tx) place() [2]int64 {
	if x.stamp > 0 {
		return [2]int64{x.stamp, 0}
	}
	return [2]int64{x.seen, 1}
}

// past is a history, as far as it was gone through.
type past struct {
	txs                 []*tx
	at                  int
	published, complete int64
}

// take: may this event come? If so, it is gone through.
func (p *past) take(e api.Event) bool {
	if e.At < p.at {
		return false
	}
	p.at = e.At
	if e.Kind == api.EvOpened {
		p.txs = append(p.txs, &tx{number: e.Tx, thread: e.Thread, begun: e.At, done: -1, seen: p.published})
		return e.Tx == len(p.txs)-1
	}
	if e.Tx < 0 || e.Tx >= len(p.txs) {
		return false
	}
	x := p.txs[e.Tx]
	if x.over || x.thread != e.Thread || x.live == (e.Kind == api.EvBegun) {
		return false
	}
	x.events = append(x.events, e)
	return p.goesOn(x, e)
}

// goesOn: may a transaction that has begun, or begins by this, go on so?
func (p *past) goesOn(x *tx, e api.Event) bool {
	open := x.stamp == 0
	switch e.Kind {
	case api.EvBegun:
		x.live, x.seen = true, e.Seen
		return true
	case api.EvRead:
		x.seen = max(x.seen, e.Seen)
		return open && e.Cell >= 0 && e.Cell < api.MaxCells
	case api.EvWrote:
		return open && e.Cell >= 0 && e.Cell < api.MaxCells
	case api.EvPublished:
		p.published++
		x.stamp, x.seen, x.done = e.Stamp, e.Stamp-1, e.At
		return open && e.Stamp == p.published
	case api.EvComplete:
		p.complete++
		x.over = true
		return e.Stamp == x.stamp && e.Stamp == p.complete
	case api.EvEnded:
		x.over, x.done, x.err = true, e.At, e.Err
		return open
	}
	return false
}

// pastOf goes through a history, which it must be.
func pastOf(t *testing.T, events []api.Event) *past {
	t.Helper()
	p := &past{}
	for i, e := range events {
		if !p.take(e) {
			t.Fatalf("the event %d may not come: %+v", i, e)
		}
	}
	return p
}

// ordered are the transactions by their places.
func (p *past) ordered() []*tx {
	list := slices.Clone(p.txs)
	slices.SortStableFunc(list, func(a, b *tx) int {
		x, y := a.place(), b.place()
		return cmp.Or(cmp.Compare(x[0], y[0]), cmp.Compare(x[1], y[1]))
	})
	return list
}

// timely: does the order keep to time?
func timely(order []*tx) bool {
	for i, later := range order {
		for _, x := range order[i+1:] {
			if x.done >= 0 && x.done < later.begun {
				return false
			}
		}
	}
	return true
}

// run does a transaction over cells: false, if a read of it tells otherwise.
func (x *tx) run(cells []int64) bool {
	own := slices.Clone(cells)
	for _, e := range x.events {
		switch e.Kind {
		case api.EvRead:
			if own[e.Cell] != e.Value {
				return false
			}
		case api.EvWrote:
			own[e.Cell] = e.Value
		}
	}
	if x.stamp > 0 {
		copy(cells, own)
	}
	return true
}

// P22.6 (DOC.md's T1): all events are a history; its order is timely and legal; and what is finished is what it comes to.
func holdsTogether(t *testing.T, w *sched.World) {
	t.Helper()
	p := pastOf(t, w.Events(0))
	order := p.ordered()
	if !timely(order) {
		t.Fatalf("the order isn't timely: %+v", w.Events(0))
	}
	cells := make([]int64, len(w.Cells()))
	for _, x := range order {
		if !x.run(cells) {
			t.Fatalf("a read of the transaction %d isn't legal: %+v", x.number, x.events)
		}
	}
	if got := w.Finished(); !slices.Equal(got, cells) {
		t.Fatalf("Finished: %v, not %v", got, cells)
	}
	entries := w.Ring()
	if newest := p.published; newest > 0 && entries[len(entries)-1].Stamp != newest {
		t.Fatalf("%+v, but %d are published", entries, newest)
	}
}
