package history_test

import (
	"math"
	"reflect"
	"slices"
	"testing"

	"carousel/api"
	"carousel/history"
)

// isNoOrder: a list is no order of a history's transactions.
func isNoOrder(t *testing.T, h []api.Event, order []int) {
	t.Helper()
	if got, why := history.Timely(h, order); got || why != api.ErrArg {
		t.Errorf("Timely of %+v in %v: %v, error %d", h, order, got, why)
	}
	if got, why := history.Legal(h, order); got || why != api.ErrArg {
		t.Errorf("Legal of %+v in %v: %v, error %d", h, order, got, why)
	}
}

// P23.3, P23.4: lists with one too few, one too many, one twice, one below 0, one too great.
func TestNoOrder(t *testing.T) {
	var list []api.Event
	for n := range 6 {
		h := told(list...)
		for order := range orders(n) {
			timelyIs(t, h, true, order...)
			legalIs(t, h, true, order...)
			for i, number := range order {
				isNoOrder(t, h, slices.Delete(slices.Clone(order), i, i+1))
				isNoOrder(t, h, slices.Insert(slices.Clone(order), i, number))
				for _, other := range append(far(), -1, n, n+1, -n, order[(i+1)%n], order[(i+n-1)%n]) {
					if other == number {
						continue
					}
					wrong := slices.Clone(order)
					wrong[i] = other
					isNoOrder(t, h, wrong)
				}
			}
			for _, other := range append(far(), -1, 0, n, n+1) {
				isNoOrder(t, h, append(slices.Clone(order), other))
				isNoOrder(t, h, slices.Insert(slices.Clone(order), 0, other))
			}
			isNoOrder(t, h, append(slices.Clone(order), n, n+1))
			if n > 0 {
				isNoOrder(t, h, nil)
				isNoOrder(t, h, []int{})
				isNoOrder(t, h, make([]int, 0, n))
			}
			if n > 1 {
				isNoOrder(t, h, make([]int, n))
				isNoOrder(t, h, slices.Repeat([]int{n - 1}, n))
			}
		}
		list = append(list, opened(n))
	}
	// So it is where the order would be late, and a read not legal.
	for _, order := range [][]int{nil, {0}, {1}, {0, 0}, {1, 1}, {1, 0, 1}, {1, 2}, {-1, 0}, {0, 1, 2}, {1, 0, -1}} {
		isNoOrder(t, example(), order)
	}
}

// P23.5: how many cells may be asked for.
func TestNoCells(t *testing.T) {
	for _, h := range [][]api.Event{nil, told(opened(0)), example()} {
		for _, cells := range append(far(), -1, api.MaxCells+1, api.MaxCells+2, 1<<16, 1<<32+1) {
			if got, why := history.Final(h, cells); (cells < 0 || cells > 1024) && (len(got) != 0 || why != api.ErrArg) {
				t.Errorf("Final of %d cells of %+v: %v, error %d", cells, h, got, why)
			}
		}
		for cells := range api.MaxCells + 1 {
			if got, why := history.Final(h, cells); len(got) != cells || why != api.OK {
				t.Errorf("Final of %d cells of %+v: %d of them, error %d", cells, h, len(got), why)
			}
		}
	}
	// Cells behind those that are asked for, and the last of all.
	h := told(opened(0), begun(0, 0), wrote(0, api.MaxCells-1, 3), wrote(0, 1, 2), published(0, 1))
	finalIs(t, h, 0, 2)
	finalIs(t, h, 0)
	if got, why := history.Final(h, api.MaxCells); why != api.OK || got[api.MaxCells-1] != 3 || got[1] != 2 {
		t.Errorf("Final: %v, error %d", got, why)
	}
}

// spoil writes over a list, and over its spare room.
func spoil[E any](list []E, with E) {
	for i := range list[:cap(list)] {
		list[:cap(list)][i] = with
	}
}

// roomy is a copy of a list, with spare room behind it.
func roomy[E any](list []E) []E {
	return append(make([]E, 0, len(list)+9), list...)
}

// samples are histories of all kinds, and such lists as are none, each with an order that may be one.
func samples() (lists [][]api.Event, of [][]int) {
	seed := strewn(83)
	for range 150 {
		h := seed.history(1+seed.below(5), 1+seed.below(40))
		if seed.below(4) == 0 {
			h = seed.spoilt(h)
		}
		lists = append(lists, h)
		of = append(of, seed.order(count(h, api.EvOpened, -1)+seed.below(8)/7))
	}
	return append(lists, nil, example()), append(of, nil, []int{1, 0})
}

// R3: what is handed in is not written into, its spare room neither.
func TestHandedIn(t *testing.T) {
	lists, of := samples()
	for i, h := range lists {
		handed, order := roomy(h), roomy(of[i])
		answersOf(handed, order)
		if !slices.Equal(handed[:cap(handed)], roomy(h)[:cap(handed)]) || !slices.Equal(order[:cap(order)], roomy(of[i])[:cap(order)]) {
			t.Fatalf("%+v and %v, not %+v and %v", handed[:cap(handed)], order[:cap(order)], h, of[i])
		}
	}
}

// R3: what was handed in is written over afterwards: what was answered stays, and the next call knows nothing of it.
func TestWrittenOver(t *testing.T) {
	lists, of := samples()
	for i, h := range lists {
		handed, order := roomy(h), roomy(of[i])
		got := answersOf(handed, order)
		spoil(handed, api.Event{At: 5, Kind: api.EvEnded, Tx: 1, Thread: 3, Seen: 9, Stamp: 4})
		spoil(order, -3)
		if want := answersOf(h, of[i]); !reflect.DeepEqual(got, want) {
			t.Fatalf("%+v, not %+v", got, want)
		}
		// The same memory with another history.
		next := (i + 1) % len(lists)
		other, otherOrder := append(handed[:0], lists[next]...), append(order[:0], of[next]...)
		if !sameAnswers(other, lists[next], otherOrder) {
			t.Fatalf("%+v, not %+v", answersOf(other, otherOrder), answersOf(lists[next], of[next]))
		}
	}
}

// R3: what was answered is written over, with its spare room: the same call answers the same again.
func TestAnswered(t *testing.T) {
	lists, of := samples()
	for i, h := range lists {
		want := answersOf(h, of[i])
		for range 3 {
			got := answersOf(h, of[i])
			if !reflect.DeepEqual(got, want) {
				t.Fatalf("%+v, not %+v", got, want)
			}
			spoil(got.txs, api.Tx{Thread: 99, Begun: 99, Ended: 99, Stamp: 99, Seen: 99, Err: 99})
			spoil(got.order, 99)
			spoil(got.final, 99)
		}
	}
}

// R4: calls know nothing of those ahead of them, in whatever order they are made.
func TestApart(t *testing.T) {
	lists, of := samples()
	var want []answers
	for i, h := range lists {
		want = append(want, answersOf(h, of[i]))
	}
	seed := strewn(84)
	for range 2000 {
		at := seed.below(len(lists))
		h, x := lists[at], want[at]
		switch seed.below(5) {
		case 0:
			if got, why, place := history.Txs(h); !slices.Equal(got, x.txs) || why != x.errnos[0] || place != x.at {
				t.Fatalf("Txs of %+v: %+v, error %d at %d", h, got, why, place)
			}
		case 1:
			if got, why := history.Order(h); !slices.Equal(got, x.order) || why != x.errnos[1] {
				t.Fatalf("Order of %+v: %v, error %d", h, got, why)
			}
		case 2:
			if got, why := history.Timely(h, of[at]); got != x.timely || why != x.errnos[2] {
				t.Fatalf("Timely of %+v: %v, error %d", h, got, why)
			}
		case 3:
			if got, why := history.Legal(h, of[at]); got != x.legal || why != x.errnos[3] {
				t.Fatalf("Legal of %+v: %v, error %d", h, got, why)
			}
		case 4:
			if got, why := history.Final(h, 5); !slices.Equal(got, x.final) || why != x.errnos[4] {
				t.Fatalf("Final of %+v: %v, error %d", h, got, why)
			}
		}
	}
}

// R1: a history of very many events comes to its end.
func TestLong(t *testing.T) {
	const n = 50000
	var list []api.Event
	var order []int
	for tx := range n {
		stamp := int64(tx) + 1
		list = append(list, opened(tx), begun(tx, int64(tx)), read(tx, tx%7, max(0, stamp-7), int64(tx)), wrote(tx, tx%7, stamp), published(tx, stamp), complete(tx, stamp))
		order = append(order, tx)
	}
	h := told(list...)
	orderIs(t, h, order...)
	timelyIs(t, h, true, order...)
	legalIs(t, h, true, order...)
	finalIs(t, h, n-5, n-4, n-3, n-2, n-1, n, n-6, 0)
	slices.Reverse(order)
	timelyIs(t, h, false, order...)
	legalIs(t, h, false, order...)
	h[len(h)-1].Stamp = math.MaxInt64
	if txs, why, at := history.Txs(h); len(txs) != 0 || why != api.ErrHistory || at != len(h)-1 {
		t.Errorf("Txs: %d of them, error %d at %d", len(txs), why, at)
	}
}
