package history_test

import (
	"slices"
	"testing"

	"carousel/api"
	"carousel/history"
)

// Here the chapter's words are reckoned anew for each answer, from the list itself.

// count is how many events of a kind stand in a list; of one transaction, if tx is at least 0.
func count(h []api.Event, kind, tx int) int {
	n := 0
	for _, e := range h {
		if e.Kind == kind && (tx < 0 || e.Tx == tx) {
			n++
		}
	}
	return n
}

// first is the first event of a kind of a transaction.
func first(h []api.Event, kind, tx int) (api.Event, bool) {
	at := slices.IndexFunc(h, func(e api.Event) bool { return e.Kind == kind && e.Tx == tx })
	if at < 0 {
		return api.Event{}, false
	}
	return h[at], true
}

// comes: may the event at a place come, by those ahead of it?
func comes(h []api.Event, at int) bool {
	e, ahead := h[at], h[:at]
	if e.At < 0 || at > 0 && e.At < h[at-1].At {
		return false
	}
	if e.Kind == api.EvOpened {
		return e.Tx == count(ahead, api.EvOpened, -1)
	}
	opener, there := first(ahead, api.EvOpened, e.Tx)
	if !there || opener.Thread != e.Thread {
		return false
	}
	had := func(kind int) bool { return count(ahead, kind, e.Tx) > 0 }
	if had(api.EvEnded) || had(api.EvComplete) {
		return false
	}
	if e.Kind == api.EvBegun {
		return !had(api.EvBegun)
	}
	if !had(api.EvBegun) {
		return false
	}
	switch e.Kind {
	case api.EvRead, api.EvWrote:
		return !had(api.EvPublished) && e.Cell >= 0 && e.Cell <= 1023
	case api.EvPublished:
		return !had(api.EvPublished) && e.Stamp == int64(count(ahead, api.EvPublished, -1))+1
	case api.EvComplete:
		own, there := first(ahead, api.EvPublished, e.Tx)
		return there && e.Stamp == own.Stamp && e.Stamp == int64(count(ahead, api.EvComplete, -1))+1
	case api.EvEnded:
		return !had(api.EvPublished)
	}
	return false
}

// wrongAt is the place of the first event that may not come; -1: there is none.
func wrongAt(h []api.Event) int {
	for at := range h {
		if !comes(h, at) {
			return at
		}
	}
	return -1
}

// txsOf are a history's transactions.
func txsOf(h []api.Event) []api.Tx {
	var list []api.Tx
	for at, e := range h {
		if e.Kind == api.EvOpened {
			list = append(list, txOf(h, at))
		}
	}
	return list
}

// txOf is the transaction that an event opens.
func txOf(h []api.Event, at int) api.Tx {
	number := h[at].Tx
	x := api.Tx{Thread: h[at].Thread, Begun: h[at].At, Ended: -1}
	if end, there := first(h, api.EvEnded, number); there {
		x.Ended, x.Err = end.At, end.Err
	}
	if own, there := first(h, api.EvPublished, number); there {
		x.Ended, x.Stamp, x.Seen = own.At, own.Stamp, own.Stamp-1
		return x
	}
	begun, there := first(h, api.EvBegun, number)
	if !there {
		x.Seen = int64(count(h[:at], api.EvPublished, -1))
		return x
	}
	x.Seen = begun.Seen
	for _, e := range h {
		if e.Kind == api.EvRead && e.Tx == number && e.Seen > x.Seen {
			x.Seen = e.Seen
		}
	}
	return x
}

// before: does the transaction a stand ahead of b, by their places and numbers?
func before(txs []api.Tx, a, b int) bool {
	placeOf := func(x api.Tx) (int64, bool) {
		if x.Stamp > 0 {
			return x.Stamp, false
		}
		return x.Seen, true
	}
	stampA, behindA := placeOf(txs[a])
	stampB, behindB := placeOf(txs[b])
	if stampA != stampB {
		return stampA < stampB
	}
	if behindA != behindB {
		return behindB
	}
	return a < b
}

// orderOf is the order of all transactions: each stands behind as many as are ahead of it.
func orderOf(txs []api.Tx) []int {
	list := make([]int, len(txs))
	for a := range txs {
		behind := 0
		for b := range txs {
			if before(txs, b, a) {
				behind++
			}
		}
		list[behind] = a
	}
	return list
}

// isOrder: has a list the number of each transaction just once?
func isOrder(txs []api.Tx, order []int) bool {
	sorted := slices.Sorted(slices.Values(order))
	for i, number := range sorted {
		if number != i {
			return false
		}
	}
	return len(sorted) == len(txs)
}

// timelyOf: pair by pair.
func timelyOf(txs []api.Tx, order []int) bool {
	for a, x := range txs {
		for b, y := range txs {
			if x.Ended >= 0 && x.Ended < y.Begun && slices.Index(order, a) > slices.Index(order, b) {
				return false
			}
		}
	}
	return true
}

// lastWrite is the last write of a cell that a transaction made in a list.
func lastWrite(h []api.Event, tx, cell int) (int64, bool) {
	for _, e := range slices.Backward(h) {
		if e.Kind == api.EvWrote && e.Tx == tx && e.Cell == cell {
			return e.Value, true
		}
	}
	return 0, false
}

// cellBehind is what a cell is behind these transactions.
func cellBehind(h []api.Event, txs []api.Tx, order []int, cell int) int64 {
	for _, number := range slices.Backward(order) {
		if value, wrote := lastWrite(h, number, cell); wrote && txs[number].Stamp > 0 {
			return value
		}
	}
	return 0
}

// legalOf: read by read.
func legalOf(h []api.Event, txs []api.Tx, order []int) bool {
	for at, e := range h {
		if e.Kind != api.EvRead {
			continue
		}
		want, wrote := lastWrite(h[:at], e.Tx, e.Cell)
		if !wrote {
			want = cellBehind(h, txs, order[:slices.Index(order, e.Tx)], e.Cell)
		}
		if e.Value != want {
			return false
		}
	}
	return true
}

// byStamps are the transactions that published, in the order of their stamps.
func byStamps(txs []api.Tx) []int {
	var list []int
	for stamp := range txs {
		at := slices.IndexFunc(txs, func(x api.Tx) bool { return x.Stamp == int64(stamp)+1 })
		if at >= 0 {
			list = append(list, at)
		}
	}
	return list
}

// finalOf are so many cells behind all that was published.
func finalOf(h []api.Event, txs []api.Tx, cells int) []int64 {
	list := make([]int64, cells)
	for cell := range list {
		list[cell] = cellBehind(h, txs, byStamps(txs), cell)
	}
	return list
}

// tally is how often an answer was this or that, and how often something was refused.
type tally struct {
	timely, legal map[bool]int
	refused       int
}

// newTally is one of nothing.
func newTally() *tally { return &tally{timely: map[bool]int{}, legal: map[bool]int{}} }

// wants: each answer must have come so often.
func (s *tally) wants(t *testing.T, least int) {
	t.Helper()
	if min(s.timely[false], s.timely[true], s.legal[false], s.legal[true], s.refused) < least {
		t.Errorf("just %+v", s)
	}
}

// holds: all calls answer of a list of events, of so many cells and of each of the orders, as the chapter's words have it.
func (s *tally) holds(t *testing.T, h []api.Event, cells int, orders ...[]int) {
	t.Helper()
	if at := wrongAt(h); at >= 0 {
		s.refused++
		isNone(t, h, at)
		return
	}
	want := txsOf(h)
	txs, why, at := history.Txs(h)
	if why != api.OK || at != 0 || !slices.Equal(txs, want) {
		t.Fatalf("Txs of %+v: %+v, error %d at %d, not %+v", h, txs, why, at, want)
	}
	order, why := history.Order(h)
	if why != api.OK || !slices.Equal(order, orderOf(want)) {
		t.Fatalf("Order of %+v: %v, error %d, not %v", h, order, why, orderOf(want))
	}
	final, why := history.Final(h, cells)
	if why != api.OK || !slices.Equal(final, finalOf(h, want, cells)) {
		t.Fatalf("Final of %d cells of %+v: %v, error %d, not %v", cells, h, final, why, finalOf(h, want, cells))
	}
	for _, one := range append(orders, order) {
		s.holdsOrder(t, h, want, one)
	}
}

// holdsOrder: so do those that ask of an order.
func (s *tally) holdsOrder(t *testing.T, h []api.Event, txs []api.Tx, order []int) {
	t.Helper()
	var wantTimely, wantLegal bool
	wantWhy := api.ErrArg
	if isOrder(txs, order) {
		wantTimely, wantLegal, wantWhy = timelyOf(txs, order), legalOf(h, txs, order), api.OK
	}
	timely, why := history.Timely(h, order)
	if timely != wantTimely || why != wantWhy {
		t.Fatalf("Timely of %+v in %v: %v, error %d, not %v, error %d", h, order, timely, why, wantTimely, wantWhy)
	}
	legal, why := history.Legal(h, order)
	if legal != wantLegal || why != wantWhy {
		t.Fatalf("Legal of %+v in %v: %v, error %d, not %v, error %d", h, order, legal, why, wantLegal, wantWhy)
	}
	if wantWhy != api.OK {
		s.refused++
		return
	}
	s.timely[timely]++
	s.legal[legal]++
}

// isNone: a list is no history, since the event at a place may not come: all calls say so, ahead of all else.
func isNone(t *testing.T, h []api.Event, at int) {
	t.Helper()
	if txs, why, got := history.Txs(h); len(txs) != 0 || why != api.ErrHistory || got != at {
		t.Fatalf("Txs of %+v: %+v, error %d at %d, not at %d", h, txs, why, got, at)
	}
	if order, why := history.Order(h); len(order) != 0 || why != api.ErrHistory {
		t.Fatalf("Order of %+v: %v, error %d", h, order, why)
	}
	for _, order := range [][]int{nil, {0}, {0, 1}, {1, 0}, {0, 0}, {-1}, make([]int, len(h)+1)} {
		if timely, why := history.Timely(h, order); timely || why != api.ErrHistory {
			t.Fatalf("Timely of %+v in %v: %v, error %d", h, order, timely, why)
		}
		if legal, why := history.Legal(h, order); legal || why != api.ErrHistory {
			t.Fatalf("Legal of %+v in %v: %v, error %d", h, order, legal, why)
		}
	}
	for _, cells := range []int{-1, 0, 1, api.MaxCells, api.MaxCells + 1} {
		if final, why := history.Final(h, cells); len(final) != 0 || why != api.ErrHistory {
			t.Fatalf("Final of %d cells of %+v: %v, error %d", cells, h, final, why)
		}
	}
}
