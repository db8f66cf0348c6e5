package history_test

import (
	"math"
	"slices"
	"testing"

	"carousel/api"
	"carousel/history"
)

// Events of the thread 0, as the chapter writes them: Kind Tx, and what else counts.
func opened(tx int) api.Event            { return api.Event{Kind: api.EvOpened, Tx: tx} }
func begun(tx int, seen int64) api.Event { return api.Event{Kind: api.EvBegun, Tx: tx, Seen: seen} }
func ended(tx int, why api.Errno) api.Event {
	return api.Event{Kind: api.EvEnded, Tx: tx, Err: why}
}
func wrote(tx, cell int, value int64) api.Event {
	return api.Event{Kind: api.EvWrote, Tx: tx, Cell: cell, Value: value}
}
func read(tx, cell int, value, seen int64) api.Event {
	return api.Event{Kind: api.EvRead, Tx: tx, Cell: cell, Value: value, Seen: seen}
}
func published(tx int, stamp int64) api.Event {
	return api.Event{Kind: api.EvPublished, Tx: tx, Stamp: stamp}
}
func complete(tx int, stamp int64) api.Event {
	return api.Event{Kind: api.EvComplete, Tx: tx, Stamp: stamp}
}

// told is a list of events, with At their place.
func told(list ...api.Event) []api.Event {
	list = slices.Clone(list)
	for at := range list {
		list[at].At = at
	}
	return list
}

// at is such a list with other moments.
func at(list []api.Event, moments ...int) []api.Event {
	list = slices.Clone(list)
	for i, moment := range moments {
		list[i].At = moment
	}
	return list
}

// by is such a list with these threads, by the numbers of their transactions.
func by(list []api.Event, threads ...int) []api.Event {
	list = slices.Clone(list)
	for i, e := range list {
		list[i].Thread = threads[e.Tx]
	}
	return list
}

// example is the chapter's first one.
func example() []api.Event {
	return told(opened(0), begun(0, 0), wrote(0, 2, 7), published(0, 1), opened(1), begun(1, 1), read(1, 2, 7, 1))
}

// txsAre: these are a history's transactions.
func txsAre(t *testing.T, h []api.Event, want ...api.Tx) {
	t.Helper()
	if got, why, at := history.Txs(h); !slices.Equal(got, want) || why != api.OK || at != 0 {
		t.Errorf("Txs of %+v: %+v, error %d at %d, not %+v", h, got, why, at, want)
	}
}

// orderIs: this is a history's order.
func orderIs(t *testing.T, h []api.Event, want ...int) {
	t.Helper()
	if got, why := history.Order(h); !slices.Equal(got, want) || why != api.OK {
		t.Errorf("Order of %+v: %v, error %d, not %v", h, got, why, want)
	}
}

// timelyIs: an order is timely, or isn't.
func timelyIs(t *testing.T, h []api.Event, want bool, order ...int) {
	t.Helper()
	if got, why := history.Timely(h, order); got != want || why != api.OK {
		t.Errorf("Timely of %+v in %v: %v, error %d, not %v", h, order, got, why, want)
	}
}

// legalIs: an order is legal, or isn't.
func legalIs(t *testing.T, h []api.Event, want bool, order ...int) {
	t.Helper()
	if got, why := history.Legal(h, order); got != want || why != api.OK {
		t.Errorf("Legal of %+v in %v: %v, error %d, not %v", h, order, got, why, want)
	}
}

// finalIs: so many first cells are these.
func finalIs(t *testing.T, h []api.Event, want ...int64) {
	t.Helper()
	if got, why := history.Final(h, len(want)); !slices.Equal(got, want) || why != api.OK {
		t.Errorf("Final of %d cells of %+v: %v, error %d, not %v", len(want), h, got, why, want)
	}
}

// The chapter's example 1.
func TestExample(t *testing.T) {
	h := example()
	txsAre(t, h, api.Tx{Thread: 0, Begun: 0, Ended: 3, Stamp: 1, Seen: 0}, api.Tx{Thread: 0, Begun: 4, Ended: -1, Stamp: 0, Seen: 1})
	orderIs(t, h, 0, 1)
	timelyIs(t, h, true, 0, 1)
	timelyIs(t, h, false, 1, 0)
	legalIs(t, h, true, 0, 1)
	legalIs(t, h, false, 1, 0)
	finalIs(t, h, 0, 0, 7)
}

// The chapter's examples 2 and 3.
func TestExamplesRefused(t *testing.T) {
	isNone(t, told(opened(0), read(0, 0, 0, 0)), 1)
	isNone(t, told(opened(1)), 0)
	isNone(t, told(opened(0), begun(0, 0), published(0, 2)), 2)
	for _, none := range [][]api.Event{nil, {}} {
		txsAre(t, none)
		orderIs(t, none)
		legalIs(t, none, true)
		timelyIs(t, none, true)
		finalIs(t, none)
		finalIs(t, none, 0, 0, 0)
	}
	if got, why := history.Timely(example(), []int{0, 0}); got || why != api.ErrArg {
		t.Errorf("Timely: %v, error %d", got, why)
	}
}

// P23.1: one transaction, as far as it has come.
func TestOne(t *testing.T) {
	all := told(opened(0), begun(0, 0), read(0, 3, 0, 0), wrote(0, 3, 5), published(0, 1), complete(0, 1))
	under := api.Tx{Begun: 0, Ended: -1}
	done := api.Tx{Begun: 0, Ended: 4, Stamp: 1}
	for n, want := range []api.Tx{under, under, under, under, done, done} {
		txsAre(t, all[:n+1], want)
		orderIs(t, all[:n+1], 0)
		timelyIs(t, all[:n+1], true, 0)
		legalIs(t, all[:n+1], true, 0)
		final := []int64{0, 0, 0, 0, 0}
		if n >= 4 {
			final[3] = 5
		}
		finalIs(t, all[:n+1], final...)
	}
	// Each error, also numbers that are none of api's.
	for _, why := range []api.Errno{api.OK, api.ErrArg, api.ErrConflict, api.ErrOverrun, api.ErrHistory, 15, -1, math.MaxInt, math.MinInt} {
		h := at(told(opened(0), begun(0, 4), wrote(0, 1, 1), ended(0, why)), 5, 6, 6, 9)
		txsAre(t, h, api.Tx{Begun: 5, Ended: 9, Seen: 4, Err: why})
		orderIs(t, h, 0)
		finalIs(t, h, 0, 0)
	}
	// Moments 0 and the greatest.
	txsAre(t, at(told(opened(0), begun(0, 0), published(0, 1)), 0, 0, 0), api.Tx{Stamp: 1})
	txsAre(t, at(told(opened(0), begun(0, 0), ended(0, 0)), math.MaxInt, math.MaxInt, math.MaxInt), api.Tx{Begun: math.MaxInt, Ended: math.MaxInt})
	txsAre(t, at(told(opened(0)), math.MaxInt), api.Tx{Begun: math.MaxInt, Ended: -1})
	// Threads are any numbers.
	for _, thread := range []int{0, 1, 7, 8, -1, math.MinInt, math.MaxInt} {
		txsAre(t, by(told(opened(0), begun(0, 1)), thread), api.Tx{Thread: thread, Ended: -1, Seen: 1})
	}
}

// P23.1: several transactions, of one thread and of several, side by side; a thread may open one while another of it is under way.
func TestSeveral(t *testing.T) {
	h := told(opened(0), opened(1), begun(1, 0), begun(0, 0), wrote(1, 0, 1), opened(2), wrote(0, 0, 2), published(1, 1),
		opened(3), published(0, 2), begun(3, 1), complete(1, 1), read(3, 0, 1, 1), complete(0, 2), opened(4), ended(3, api.ErrConflict), opened(5), begun(5, 2))
	for _, threads := range [][]int{{0, 0, 0, 0, 0, 0}, {4, 1, -2, 1, 4, 9}, {7, 6, 5, 4, 3, 2}} {
		list := by(h, threads...)
		txsAre(t, list,
			api.Tx{Thread: threads[0], Begun: 0, Ended: 9, Stamp: 2, Seen: 1},
			api.Tx{Thread: threads[1], Begun: 1, Ended: 7, Stamp: 1, Seen: 0},
			api.Tx{Thread: threads[2], Begun: 5, Ended: -1, Seen: 0},
			api.Tx{Thread: threads[3], Begun: 8, Ended: 15, Seen: 1, Err: api.ErrConflict},
			api.Tx{Thread: threads[4], Begun: 14, Ended: -1, Seen: 2},
			api.Tx{Thread: threads[5], Begun: 16, Ended: -1, Seen: 2})
		orderIs(t, list, 2, 1, 3, 0, 4, 5)
		timelyIs(t, list, true, 2, 1, 3, 0, 4, 5)
		legalIs(t, list, true, 2, 1, 3, 0, 4, 5)
		finalIs(t, list, 2, 0)
	}
}

// P23.1: SEEN of one that has no EvBegun is how many had published ahead of its opening, however many do so behind that.
func TestSeenOpened(t *testing.T) {
	h := told(opened(0), opened(1), begun(1, 0), published(1, 1), opened(2), opened(3), begun(3, 1), published(3, 2), complete(1, 1), opened(4))
	txsAre(t, h, api.Tx{Ended: -1}, api.Tx{Begun: 1, Ended: 3, Stamp: 1}, api.Tx{Begun: 4, Ended: -1, Seen: 1}, api.Tx{Begun: 5, Ended: 7, Stamp: 2, Seen: 1}, api.Tx{Begun: 9, Ended: -1, Seen: 2})
	orderIs(t, h, 0, 1, 2, 3, 4)
	// What its EvOpened itself says of Seen does not matter.
	h[0].Seen, h[4].Seen = 99, -1
	orderIs(t, h, 0, 1, 2, 3, 4)
	// From its EvBegun on that is what counts, though it is less.
	h = told(opened(0), begun(0, 0), published(0, 1), opened(1), begun(1, -5))
	txsAre(t, h, api.Tx{Ended: 2, Stamp: 1}, api.Tx{Begun: 3, Ended: -1, Seen: -5})
	orderIs(t, h, 1, 0)
}

// P23.1: SEEN is the greatest of EvBegun's and all EvReads', wherever that stands.
func TestSeenRead(t *testing.T) {
	for _, seens := range [][]int64{{0}, {3}, {1, 0}, {0, 1}, {0, 5, 2}, {0, 2, 5}, {5, 2, 0}, {0, 3, 3}, {-4, -9}, {-9, -4, -7}, {math.MinInt64}, {math.MinInt64, math.MinInt64}, {-1, math.MaxInt64, 7}} {
		list := []api.Event{opened(0), begun(0, seens[0])}
		for i, seen := range seens[1:] {
			list = append(list, read(0, i%2, 0, seen), wrote(0, 3, 1))
		}
		want := api.Tx{Ended: -1, Seen: slices.Max(seens)}
		txsAre(t, told(list...), want)
		// Other events' Seens don't count.
		for i := range list {
			if list[i].Kind == api.EvOpened || list[i].Kind == api.EvWrote {
				list[i].Seen = math.MaxInt64
			}
		}
		txsAre(t, told(list...), want)
		end := ended(0, api.ErrOwn)
		end.Seen = math.MaxInt64
		want.Ended, want.Err = len(list), api.ErrOwn
		txsAre(t, told(append(list, end)...), want)
		// Of one that published just its stamp counts.
		entry := published(0, 1)
		entry.Seen = 77
		txsAre(t, told(append(list, entry)...), api.Tx{Ended: len(list), Stamp: 1})
	}
}

// P23.2: places, and numbers where these are equal.
func TestOrder(t *testing.T) {
	for _, x := range []struct {
		h    []api.Event
		want []int
	}{
		{told(opened(0)), []int{0}},
		// All of one place.
		{told(opened(0), opened(1), opened(2), opened(3)), []int{0, 1, 2, 3}},
		{told(opened(0), opened(1), opened(2), begun(2, 0), begun(1, 0), ended(2, 0)), []int{0, 1, 2}},
		// (1, 0) is ahead of (1, 1), whatever the numbers are; (0, 1) is ahead of (1, 0).
		{told(opened(0), opened(1), begun(0, 0), begun(1, 0), published(1, 1), read(0, 0, 0, 1)), []int{1, 0}},
		{told(opened(0), opened(1), begun(0, 0), begun(1, 0), published(1, 1), read(0, 0, 0, 0)), []int{0, 1}},
		{told(opened(0), begun(0, 0), published(0, 1), opened(1), begun(1, 1)), []int{0, 1}},
		{told(opened(0), begun(0, 0), published(0, 1), opened(1), begun(1, 0)), []int{1, 0}},
		// By the stamps, not by the numbers.
		{told(opened(0), opened(1), opened(2), begun(0, 0), begun(1, 0), begun(2, 0), published(2, 1), published(0, 2), published(1, 3)), []int{2, 0, 1}},
		// Several of each place, with the later stamps opened first.
		{told(opened(0), opened(1), opened(2), opened(3), opened(4), opened(5), begun(5, 1), begun(4, 2), begun(3, 0), begun(2, 1), begun(1, 0), begun(0, 2),
			published(3, 1), published(1, 2)), []int{3, 2, 5, 1, 0, 4}},
		// Seens below 0, and the ends.
		{told(opened(0), begun(0, math.MaxInt64), opened(1), begun(1, math.MinInt64), opened(2), begun(2, -1), opened(3), begun(3, 0), opened(4), begun(4, 1), opened(5), begun(5, math.MinInt64), opened(6), begun(6, math.MaxInt64)),
			[]int{1, 5, 2, 3, 4, 0, 6}},
		{told(opened(0), begun(0, 1<<32), opened(1), begun(1, 1<<32-1), opened(2), begun(2, 1), opened(3), begun(3, 1<<31)), []int{2, 3, 1, 0}},
	} {
		orderIs(t, x.h, x.want...)
		newTally().holds(t, x.h, 4)
	}
}

// P23.2: many of one place among others, at both sides of sizes at which a sort goes another way.
func TestOrderMany(t *testing.T) {
	for _, n := range []int{11, 12, 13, 20, 21, 50, 64, 200, 1000} {
		var list []api.Event
		for tx := range n {
			list = append(list, opened(tx), begun(tx, int64(tx%3)))
		}
		order, why := history.Order(told(list...))
		if why != api.OK || len(order) != n {
			t.Fatalf("%d of them: %v, error %d", n, order, why)
		}
		for i := range n - 1 {
			a, b := order[i], order[i+1]
			if a%3 > b%3 || a%3 == b%3 && a >= b {
				t.Fatalf("%d of them: %d ahead of %d", n, a, b)
			}
		}
	}
}

// P23.3: who was done below the moment at which another begins.
func TestTimely(t *testing.T) {
	// The first is done at the moment 5; the second begins ahead of that, just then, and behind that.
	for _, end := range []api.Event{published(0, 1), ended(0, api.OK), ended(0, api.ErrConflict)} {
		for begins, behind := range map[int]bool{2: false, 4: false, 5: false, 6: true, 7: true, math.MaxInt: true} {
			h := told(opened(0), begun(0, 0), end, opened(1))
			if begins < 5 {
				h = told(opened(0), begun(0, 0), opened(1), end)
				h = at(h, 0, 1, begins, 5)
			} else {
				h = at(h, 0, 1, 5, begins)
			}
			timelyIs(t, h, true, 0, 1)
			timelyIs(t, h, !behind, 1, 0)
		}
	}
	// One that isn't done (-1) may stand anywhere; so may one that began as all others did.
	h := at(told(opened(0), begun(0, 0), wrote(0, 0, 0), opened(1), begun(1, 0)), 0, 0, 0, 9, 9)
	timelyIs(t, h, true, 1, 0)
	timelyIs(t, h, true, 0, 1)
	// Done at the moment 0 is done, too.
	h = at(told(opened(0), begun(0, 0), ended(0, 0), opened(1)), 0, 0, 0, 1)
	timelyIs(t, h, true, 0, 1)
	timelyIs(t, h, false, 1, 0)
	// It is done when it has published, not when it is complete.
	h = told(opened(0), begun(0, 0), published(0, 1), opened(1), complete(0, 1), opened(2))
	timelyIs(t, h, false, 1, 0, 2)
	timelyIs(t, h, true, 0, 2, 1)
	// It begins when it is opened, not by its EvBegun.
	h = told(opened(0), opened(1), begun(0, 0), ended(0, 0), begun(1, 0))
	timelyIs(t, h, true, 1, 0)
}

// P23.3: the two that are in the wrong order stand apart, with others between, ahead and behind.
func TestTimelyApart(t *testing.T) {
	// 0 is done ahead of 3's beginning; 1, 2 and 4 aren't done; 1 and 2 begin with 0, 4 with 3.
	h := at(told(opened(0), opened(1), opened(2), begun(0, 0), ended(0, 0), opened(3), opened(4), begun(3, 0), ended(3, 0)), 0, 0, 0, 1, 2, 3, 3, 4, 5)
	for order := range orders(5) {
		timelyIs(t, h, slices.Index(order, 0) < min(slices.Index(order, 3), slices.Index(order, 4)), order...)
	}
}

// P23.4: reads of a cell that it wrote itself, that another wrote, that nobody wrote.
func TestLegal(t *testing.T) {
	for _, x := range []struct {
		h     []api.Event
		want  bool
		order []int
	}{
		// Nobody wrote it.
		{told(opened(0), begun(0, 0), read(0, 0, 0, 0)), true, []int{0}},
		{told(opened(0), begun(0, 0), read(0, 0, 1, 0)), false, []int{0}},
		{told(opened(0), begun(0, 0), read(0, api.MaxCells-1, 0, 0), read(0, 1, 0, 0)), true, []int{0}},
		{told(opened(0), begun(0, 0), read(0, api.MaxCells-1, 0, 0), read(0, 1, -1, 0)), false, []int{0}},
		{told(opened(0), begun(0, 0), wrote(0, 1, 5), read(0, 0, 0, 0), read(0, 2, 0, 0)), true, []int{0}},
		// It wrote it itself, once and again, also 0, and also what was there; just what stands ahead counts.
		{told(opened(0), begun(0, 0), wrote(0, 1, 5), read(0, 1, 5, 0)), true, []int{0}},
		{told(opened(0), begun(0, 0), wrote(0, 1, 5), read(0, 1, 0, 0)), false, []int{0}},
		{told(opened(0), begun(0, 0), read(0, 1, 0, 0), wrote(0, 1, 5)), true, []int{0}},
		{told(opened(0), begun(0, 0), read(0, 1, 5, 0), wrote(0, 1, 5)), false, []int{0}},
		{told(opened(0), begun(0, 0), wrote(0, 1, 5), wrote(0, 1, 6), read(0, 1, 6, 0)), true, []int{0}},
		{told(opened(0), begun(0, 0), wrote(0, 1, 5), wrote(0, 1, 6), read(0, 1, 5, 0)), false, []int{0}},
		{told(opened(0), begun(0, 0), wrote(0, 1, 5), read(0, 1, 5, 0), wrote(0, 1, 6), read(0, 1, 6, 0), published(0, 1)), true, []int{0}},
		{told(opened(0), begun(0, 0), wrote(0, 1, 5), read(0, 1, 6, 0), wrote(0, 1, 6)), false, []int{0}},
		{told(opened(0), begun(0, 0), wrote(0, 1, 5), wrote(0, 1, 0), read(0, 1, 0, 0), ended(0, api.ErrOwn)), true, []int{0}},
		{told(opened(0), begun(0, 0), wrote(0, 1, 5), wrote(0, 1, 0), read(0, 1, 5, 0), ended(0, api.ErrOwn)), false, []int{0}},
		// Another wrote it: just if it published, whether that is complete or not.
		{told(opened(0), begun(0, 0), wrote(0, 1, 5), published(0, 1), opened(1), begun(1, 1), read(1, 1, 5, 1)), true, []int{0, 1}},
		{told(opened(0), begun(0, 0), wrote(0, 1, 5), published(0, 1), complete(0, 1), opened(1), begun(1, 1), read(1, 1, 5, 1)), true, []int{0, 1}},
		{told(opened(0), begun(0, 0), wrote(0, 1, 5), published(0, 1), opened(1), begun(1, 1), read(1, 1, 0, 1)), false, []int{0, 1}},
		{told(opened(0), begun(0, 0), wrote(0, 1, 5), published(0, 1), opened(1), begun(1, 1), read(1, 1, 0, 1)), true, []int{1, 0}},
		{told(opened(0), begun(0, 0), wrote(0, 1, 5), ended(0, api.OK), opened(1), begun(1, 0), read(1, 1, 5, 0)), false, []int{0, 1}},
		{told(opened(0), begun(0, 0), wrote(0, 1, 5), ended(0, api.OK), opened(1), begun(1, 0), read(1, 1, 0, 0)), true, []int{0, 1}},
		{told(opened(0), begun(0, 0), wrote(0, 1, 5), opened(1), begun(1, 0), read(1, 1, 5, 0)), false, []int{0, 1}},
		{told(opened(0), begun(0, 0), wrote(0, 1, 5), opened(1), begun(1, 0), read(1, 1, 0, 0)), true, []int{0, 1}},
		// It published behind the read in the list, and stands ahead in the order.
		{told(opened(0), begun(0, 0), wrote(0, 1, 5), opened(1), begun(1, 0), read(1, 1, 5, 0), published(0, 1)), true, []int{0, 1}},
		{told(opened(0), begun(0, 0), wrote(0, 1, 5), opened(1), begun(1, 0), read(1, 1, 5, 0), published(0, 1)), false, []int{1, 0}},
		// Its last write of the cell counts, and its own one ahead of another's.
		{told(opened(0), begun(0, 0), wrote(0, 1, 5), wrote(0, 1, 6), published(0, 1), opened(1), begun(1, 1), read(1, 1, 6, 1)), true, []int{0, 1}},
		{told(opened(0), begun(0, 0), wrote(0, 1, 5), wrote(0, 1, 6), published(0, 1), opened(1), begun(1, 1), read(1, 1, 5, 1)), false, []int{0, 1}},
		{told(opened(0), begun(0, 0), wrote(0, 1, 5), published(0, 1), opened(1), begun(1, 1), wrote(1, 1, 8), read(1, 1, 8, 1)), true, []int{0, 1}},
		{told(opened(0), begun(0, 0), wrote(0, 1, 5), published(0, 1), opened(1), begun(1, 1), wrote(1, 1, 8), read(1, 1, 5, 1)), false, []int{0, 1}},
		{told(opened(0), begun(0, 0), wrote(0, 1, 5), published(0, 1), opened(1), begun(1, 1), read(1, 1, 5, 1), wrote(1, 1, 8), read(1, 1, 8, 1)), true, []int{0, 1}},
		// One that wrote 0 counts, too.
		{told(opened(0), begun(0, 0), wrote(0, 1, 5), published(0, 1), opened(1), begun(1, 1), wrote(1, 1, 0), published(1, 2), opened(2), begun(2, 2), read(2, 1, 0, 2)), true, []int{0, 1, 2}},
		{told(opened(0), begun(0, 0), wrote(0, 1, 5), published(0, 1), opened(1), begun(1, 1), wrote(1, 1, 0), published(1, 2), opened(2), begun(2, 2), read(2, 1, 0, 2)), false, []int{1, 0, 2}},
		// The order that was handed in counts, not the stamps, and not Order's.
		{told(opened(0), begun(0, 0), wrote(0, 1, 5), published(0, 1), opened(1), begun(1, 1), wrote(1, 1, 6), published(1, 2), opened(2), begun(2, 2), read(2, 1, 5, 2)), true, []int{1, 0, 2}},
		{told(opened(0), begun(0, 0), wrote(0, 1, 5), published(0, 1), opened(1), begun(1, 1), wrote(1, 1, 6), published(1, 2), opened(2), begun(2, 2), read(2, 1, 5, 2)), true, []int{0, 2, 1}},
		{told(opened(0), begun(0, 0), wrote(0, 1, 5), published(0, 1), opened(1), begun(1, 1), wrote(1, 1, 6), published(1, 2), opened(2), begun(2, 2), read(2, 1, 5, 2)), false, []int{0, 1, 2}},
		// The first and the last cell, and values at the ends.
		{told(opened(0), begun(0, 0), wrote(0, 0, math.MinInt64), wrote(0, api.MaxCells-1, math.MaxInt64), published(0, 1), opened(1), begun(1, 1), read(1, 0, math.MinInt64, 1), read(1, api.MaxCells-1, math.MaxInt64, 1)), true, []int{0, 1}},
		{told(opened(0), begun(0, 0), wrote(0, 0, math.MinInt64), wrote(0, api.MaxCells-1, math.MaxInt64), published(0, 1), opened(1), begun(1, 1), read(1, 0, math.MinInt64, 1), read(1, api.MaxCells-1, math.MaxInt64-1, 1)), false, []int{0, 1}},
		// The first of several is wrong, though its Own and its Seen say else; Own does not matter.
		{told(opened(0), begun(0, 0), read(0, 1, 1, 0), read(0, 1, 0, 0), opened(1), begun(1, 0), read(1, 1, 0, 0)), false, []int{1, 0}},
		{told(api.Event{Kind: api.EvOpened}, begun(0, 0), api.Event{Kind: api.EvRead, Cell: 1, Value: 1, Own: true}), false, []int{0}},
		{told(api.Event{Kind: api.EvOpened}, begun(0, 0), wrote(0, 1, 4), api.Event{Kind: api.EvRead, Cell: 1, Value: 4, Own: false}), true, []int{0}},
	} {
		legalIs(t, x.h, x.want, x.order...)
		newTally().holds(t, x.h, 4, x.order)
	}
}

// P23.4: transactions whose events stand among one another's know nothing of what isn't published.
func TestLegalAmong(t *testing.T) {
	h := told(opened(0), opened(1), begun(0, 0), begun(1, 0), wrote(0, 0, 1), wrote(1, 0, 2), read(0, 0, 1, 0), read(1, 0, 2, 0), read(0, 1, 0, 0), wrote(1, 1, 3), read(0, 1, 0, 0), published(0, 1), read(1, 0, 2, 1), published(1, 2))
	legalIs(t, h, true, 0, 1)
	legalIs(t, h, false, 1, 0)
	finalIs(t, h, 2, 3, 0)
}

// P23.5: cells behind all that published, by their stamps.
func TestFinal(t *testing.T) {
	// Two writes of one cell; one of another's cell; the order of the stamps is not that of the numbers.
	h := told(opened(0), opened(1), begun(0, 0), begun(1, 0), wrote(0, 0, 1), wrote(0, 0, 2), wrote(0, 3, 3), wrote(1, 0, 4), wrote(1, 1, 5), published(1, 1), published(0, 2))
	finalIs(t, h)
	finalIs(t, h, 2)
	finalIs(t, h, 2, 5)
	finalIs(t, h, 2, 5, 0, 3)
	finalIs(t, h, 2, 5, 0, 3, 0)
	finalIs(t, h[:len(h)-1], 4, 5, 0, 0, 0)
	finalIs(t, h[:len(h)-2], 0, 0, 0, 0, 0)
	// Reads don't matter, also such as aren't legal; nor does what came to nothing, is under way, or wrote 0.
	h = told(opened(0), begun(0, 0), wrote(0, 0, 1), read(0, 0, 9, 0), wrote(0, 2, 8), published(0, 1), complete(0, 1), opened(1), begun(1, 1), wrote(1, 0, 7), ended(1, api.OK), opened(2), begun(2, 1), wrote(2, 0, 6), opened(3), begun(3, 1), wrote(3, 2, 0), published(3, 2))
	finalIs(t, h, 1, 0, 0)
	// All cells, each written.
	list := []api.Event{opened(0), begun(0, 0)}
	want := make([]int64, api.MaxCells)
	for cell := range want {
		want[cell] = int64(cell)*math.MaxInt32 - 7
		list = append(list, wrote(0, cell, want[cell]))
	}
	h = told(append(list, published(0, 1))...)
	for _, cells := range []int{0, 1, 2, 255, 256, 1023, api.MaxCells} {
		finalIs(t, h, want[:cells]...)
	}
}
