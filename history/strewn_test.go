package history_test

import (
	"iter"
	"math"
	"reflect"
	"slices"
	"testing"

	"carousel/api"
	"carousel/history"
)

// strewn gives numbers that are spread out, the same ones each time.
type strewn uint64

func (s *strewn) below(n int) int {
	*s = *s*6364136223846793005 + 1442695040888963407
	return int(uint64(*s>>33) % uint64(n))
}

// number is one of a few, or one at an end.
func (s *strewn) number() int64 {
	if s.below(12) == 0 {
		return []int64{math.MinInt64, math.MinInt64 + 1, -1 << 32, 1 << 32, math.MaxInt64 - 1, math.MaxInt64}[s.below(6)]
	}
	return int64(s.below(4)) - 1
}

// order is any one of so many.
func (s *strewn) order(n int) []int {
	list := make([]int, n)
	for i := range list {
		at := s.below(i + 1)
		list[i] = list[at]
		list[at] = i
	}
	return list
}

// orders gives all of so many.
func orders(n int) iter.Seq[[]int] {
	return func(yield func([]int) bool) {
		var from func(list []int) bool
		from = func(list []int) bool {
			if len(list) == n {
				return yield(slices.Clone(list))
			}
			for next := range n {
				if !slices.Contains(list, next) && !from(append(list, next)) {
					return false
				}
			}
			return true
		}
		from(nil)
	}
}

// next is an event that may come behind a history, of one of so many threads.
func (s *strewn) next(h []api.Event, threads int) api.Event {
	for {
		e := api.Event{Kind: 1 + s.below(7), Tx: count(h, api.EvOpened, -1), Thread: s.below(threads), Cell: s.below(3), Value: int64(s.below(2)), Stamp: int64(count(h, api.EvPublished, -1)) + 1}
		if len(h) > 0 {
			e.At = h[len(h)-1].At + max(0, s.below(4)-1)
		}
		e.Seen = min(e.Stamp, int64(s.below(4)))
		if e.Kind != api.EvOpened {
			e.Tx = s.below(e.Tx + 1)
		}
		if e.Kind == api.EvEnded {
			e.Err = api.Errno(s.below(15))
		}
		if e.Kind == api.EvComplete {
			e.Stamp = int64(count(h, api.EvComplete, -1)) + 1
		}
		if opener, there := first(h, api.EvOpened, e.Tx); there {
			e.Thread = opener.Thread
		}
		if comes(after(h, e), len(h)) {
			return e
		}
	}
}

// history is any one of so many threads and events, with few values, so that reads are right now and then.
func (s *strewn) history(threads, events int) []api.Event {
	var h []api.Event
	for range events {
		h = append(h, s.next(h, threads))
	}
	return h
}

// spoilt is such a list with one event changed in one field: it may be a history still.
func (s *strewn) spoilt(h []api.Event) []api.Event {
	h = slices.Clone(h)
	e := &h[s.below(len(h))]
	switch s.below(8) {
	case 0:
		e.At += int(s.number())
	case 1:
		e.Thread += int(s.number())
	case 2:
		e.Tx += int(s.number())
	case 3:
		e.Kind = s.below(10) - 1
	case 4:
		e.Cell = []int{-1, 0, api.MaxCells - 1, api.MaxCells}[s.below(4)]
	case 5:
		e.Value += s.number()
	case 6:
		e.Seen = s.number()
	case 7:
		e.Stamp += s.number()
	}
	return h
}

// sameAnswers: do all calls answer the same of both lists, and of this order?
func sameAnswers(a, b []api.Event, order []int) bool {
	return reflect.DeepEqual(answersOf(a, order), answersOf(b, order))
}

// answers is what all calls answer.
type answers struct {
	txs           []api.Tx
	order         []int
	final         []int64
	at            int
	timely, legal bool
	errnos        [5]api.Errno
}

// answersOf are those of a list and of an order.
func answersOf(h []api.Event, order []int) answers {
	var a answers
	a.txs, a.errnos[0], a.at = history.Txs(h)
	a.order, a.errnos[1] = history.Order(h)
	a.timely, a.errnos[2] = history.Timely(h, order)
	a.legal, a.errnos[3] = history.Legal(h, order)
	a.final, a.errnos[4] = history.Final(h, 5)
	return a
}

// P23.1 to P23.5: random histories, and such as are spoilt, in any orders.
func TestStrewn(t *testing.T) {
	seed := strewn(82)
	all := newTally()
	for range 3000 {
		h := seed.history(1+seed.below(6), 1+seed.below(40))
		n := count(h, api.EvOpened, -1)
		wrong := seed.order(n + 1)
		all.holds(t, h, seed.below(6), seed.order(n), seed.order(n), orderOf(txsOf(h)), wrong)
		for range 4 {
			all.holds(t, seed.spoilt(h), seed.below(6), seed.order(n), wrong[:n])
		}
	}
	all.wants(t, 500)
}

// P23.1 to P23.5: all histories of few events and two transactions, and all that may not go on them, in all orders.
func TestAllShort(t *testing.T) {
	var alphabet []api.Event
	for tx := range 2 {
		for _, stamp := range []int64{1, 2} {
			alphabet = append(alphabet, published(tx, stamp), complete(tx, stamp))
		}
		for _, value := range []int64{0, 1} {
			alphabet = append(alphabet, read(tx, 0, value, value))
		}
		alphabet = append(alphabet, opened(tx), begun(tx, 0), begun(tx, 1), wrote(tx, 0, 1), ended(tx, api.ErrConflict))
	}
	alphabet = append(alphabet, opened(2), begun(2, 0), api.Event{})
	lists := [][]int{{}, {0}, {0, 1}, {1, 0}, {1}, {0, 0}, {0, 1, 2}}
	all := newTally()
	var from func(h []api.Event, left int)
	from = func(h []api.Event, left int) {
		all.holds(t, h, 1, lists...)
		if left == 0 || wrongAt(h) >= 0 {
			return
		}
		for _, e := range alphabet {
			from(told(after(h, e)...), left-1)
		}
	}
	from(nil, 7)
	all.wants(t, 500)
}
