package history_test

import (
	"math"
	"slices"
	"testing"

	"carousel/api"
)

// far are numbers that are far off.
func far() []int {
	return []int{math.MinInt, math.MinInt32, -256, -2, 256, 1 << 32, math.MaxInt}
}

// mayCome: a list without its last event is a history, and that event may come there, or may not.
func mayCome(t *testing.T, want bool, list ...api.Event) {
	t.Helper()
	mayComeAs(t, want, told(list...))
}

// mayComeAs is the same of a list that has its moments and threads already.
func mayComeAs(t *testing.T, want bool, h []api.Event) {
	t.Helper()
	last := len(h) - 1
	newTally().holds(t, h[:last], 3)
	if got := wrongAt(h); got != -1 && got != last || want != (got == -1) {
		t.Fatalf("%+v: by the words the event %d is wrong", h, got)
	}
	if want {
		newTally().holds(t, h, 3)
		return
	}
	isNone(t, h, last)
	// Whatever stands behind it, the first one is told; so is it with what may come behind it.
	for _, behind := range []api.Event{{}, opened(9), {At: math.MaxInt, Kind: api.EvOpened, Tx: count(h[:last], api.EvOpened, -1)}} {
		isNone(t, append(slices.Clone(h), behind, behind), last)
	}
}

// after is a list with one event more, which has all else of this one.
func after(list []api.Event, e api.Event) []api.Event {
	return append(slices.Clone(list), e)
}

// each is an event of each kind of the transaction tx, with this stamp.
func each(tx int, stamp int64) map[int]api.Event {
	return map[int]api.Event{
		api.EvOpened: opened(tx), api.EvBegun: begun(tx, 0), api.EvRead: read(tx, 0, 0, 0), api.EvWrote: wrote(tx, 0, 0),
		api.EvPublished: published(tx, stamp), api.EvComplete: complete(tx, stamp), api.EvEnded: ended(tx, 0),
	}
}

// P23.1: which kinds of events may come behind which of its transaction.
func TestStages(t *testing.T) {
	var none []api.Event
	open := []api.Event{opened(0)}
	run := []api.Event{opened(0), begun(0, 0)}
	entry := after(run, published(0, 1))
	for _, x := range []struct {
		list []api.Event
		may  []int
	}{
		{none, []int{api.EvOpened}},
		{open, []int{api.EvBegun}},
		{run, []int{api.EvRead, api.EvWrote, api.EvPublished, api.EvEnded}},
		{after(run, read(0, 0, 0, 0)), []int{api.EvRead, api.EvWrote, api.EvPublished, api.EvEnded}},
		{after(run, wrote(0, 0, 0)), []int{api.EvRead, api.EvWrote, api.EvPublished, api.EvEnded}},
		{entry, []int{api.EvComplete}},
		{after(entry, complete(0, 1)), nil},
		{after(run, ended(0, 0)), nil},
		{after(run, ended(0, api.ErrConflict)), nil},
	} {
		for kind, e := range each(0, 1) {
			mayCome(t, slices.Contains(x.may, kind), after(x.list, e)...)
			// Another transaction, of this thread or of another one, that has come as far, changes nothing of it.
			if len(x.list) == 0 {
				continue
			}
			for _, thread := range []int{0, 1} {
				list := slices.Concat(x.list, []api.Event{opened(1), begun(1, 0), wrote(1, 0, 0), ended(1, 0)}, []api.Event{e})
				mayComeAs(t, slices.Contains(x.may, kind), by(told(list...), 0, thread))
				list = slices.Concat(x.list, []api.Event{opened(1), begun(1, 0)}, []api.Event{e})
				mayComeAs(t, slices.Contains(x.may, kind), by(told(list...), 0, thread))
			}
		}
		// The next transaction may be opened at any time, by any thread.
		if len(x.list) > 0 {
			for _, thread := range append(far(), -1, 0, 1) {
				mayComeAs(t, true, by(told(after(x.list, opened(1))...), 0, thread))
			}
		}
	}
	// Published twice: with the stamp that it has, and with the next one.
	mayCome(t, false, after(entry, published(0, 1))...)
	mayCome(t, false, after(entry, published(0, 2))...)
	// Begun twice, with all that may stand between.
	for _, between := range [][]api.Event{{}, {read(0, 0, 0, 0)}, {wrote(0, 0, 0)}, {published(0, 1)}, {published(0, 1), complete(0, 1)}, {ended(0, 0)}} {
		mayCome(t, false, after(slices.Concat(run, between), begun(0, 0))...)
	}
}

// P23.1: At is at least 0, and not below that of the event ahead, whatever the kind is.
func TestMoments(t *testing.T) {
	for _, x := range []struct {
		ahead, moment int
		want          bool
	}{
		{0, 0, true}, {0, 1, true}, {0, -1, false}, {0, math.MaxInt, true}, {0, math.MinInt, false}, {1, 0, false}, {1, 1, true}, {1, 2, true}, {1, -1, false},
		{7, 6, false}, {7, 7, true}, {7, 1 << 40, true}, {256, 255, false}, {256, 0, false}, {1 << 32, 1<<32 - 1, false}, {1 << 32, 1, false},
		{math.MaxInt, math.MaxInt - 1, false}, {math.MaxInt, math.MaxInt, true}, {math.MaxInt, 0, false}, {math.MaxInt, math.MinInt, false},
	} {
		run := []api.Event{opened(0), begun(0, 0)}
		entry := after(run, published(0, 1))
		for _, list := range [][]api.Event{{opened(0), opened(1)}, {opened(0), begun(0, 0)}, after(run, read(0, 0, 0, 0)), after(run, wrote(0, 0, 0)), entry, after(entry, complete(0, 1)), after(run, ended(0, 0))} {
			last := len(list) - 1
			for i := range list[:last] {
				list[i].At = x.ahead
			}
			list[last].At = x.moment
			mayComeAs(t, x.want, list)
		}
	}
	for _, moment := range []int{math.MinInt, -2, -1, 0, 1, 5, math.MaxInt} {
		mayComeAs(t, moment >= 0, at([]api.Event{opened(0)}, moment))
	}
	// It is the event ahead that counts, of whatever transaction it is.
	mayComeAs(t, false, at(told(opened(0), opened(1), begun(0, 0)), 3, 5, 4))
	mayComeAs(t, true, at(told(opened(0), opened(1), begun(0, 0)), 3, 5, 5))
}

// P23.1: Tx of EvOpened is how many were opened ahead.
func TestNumbers(t *testing.T) {
	var list []api.Event
	for n := range 5 {
		for _, tx := range append(far(), -1, 0, 1, 2, 3, 4, 5, 6) {
			mayCome(t, tx == n, after(list, opened(tx))...)
		}
		list = append(list, opened(n))
		if n%2 == 1 {
			list = append(list, begun(n, 0), ended(n, 0))
		}
	}
}

// P23.1: Tx of all others is one that was opened.
func TestUnknown(t *testing.T) {
	for _, list := range [][]api.Event{nil, {opened(0)}, {opened(0), begun(0, 0)}, {opened(0), opened(1), begun(0, 0), begun(1, 0)}, {opened(0), begun(0, 0), published(0, 1)}} {
		n := count(list, api.EvOpened, -1)
		for _, tx := range append(far(), -1, n, n+1) {
			for kind, e := range each(tx, int64(count(list, api.EvPublished, -1))+1) {
				mayCome(t, kind == api.EvOpened && tx == n, after(list, e)...)
			}
		}
	}
}

// P23.1: Thread is its transaction's, at each event behind EvOpened.
func TestThreads(t *testing.T) {
	run := []api.Event{opened(0), begun(0, 0)}
	entry := after(run, published(0, 1))
	for _, list := range [][]api.Event{run, after(run, read(0, 0, 0, 0)), after(run, wrote(0, 0, 0)), entry, after(entry, complete(0, 1)), after(run, ended(0, 0))} {
		for _, own := range []int{0, 1, 5, -1, math.MaxInt} {
			for _, thread := range append(far(), -1, 0, 1, 5, 6) {
				h := by(told(list...), own)
				h[len(h)-1].Thread = thread
				mayComeAs(t, thread == own, h)
			}
		}
		// Nor is it that of the transaction opened last, or of the event ahead.
		h := by(told(slices.Concat(list[:len(list)-1], []api.Event{opened(1), begun(1, 0)}, list[len(list)-1:])...), 2, 3)
		mayComeAs(t, true, h)
		h[len(h)-1].Thread = 3
		mayComeAs(t, false, h)
	}
}

// P23.1: the cells that may be read and written.
func TestCells(t *testing.T) {
	for _, cell := range append(far(), -1, 0, 1, 63, 64, 512, 1022, api.MaxCells-1, api.MaxCells, api.MaxCells+1, 2048, 65536) {
		may := cell >= 0 && cell < 1024
		mayCome(t, may, opened(0), begun(0, 0), read(0, cell, 0, 0))
		mayCome(t, may, opened(0), begun(0, 0), wrote(0, cell, 0))
		// Of other kinds it does not matter.
		for _, list := range [][]api.Event{{opened(0)}, {opened(0), begun(0, 0)}, {opened(0), begun(0, 0), published(0, 1)}, {opened(0), begun(0, 0), published(0, 1), complete(0, 1)}, {opened(0), begun(0, 0), ended(0, 0)}} {
			list[len(list)-1].Cell = cell
			mayCome(t, true, list...)
		}
	}
}

// stamps are some about a right one.
func stamps(right int64) []int64 {
	return []int64{math.MinInt64, -right, -1, 0, right - 1, right, right + 1, right + 2, right + 1<<32, right + 256, math.MaxInt64}
}

// P23.1: the stamp of EvPublished is the next one, whosever it is, and whatever is complete.
func TestPublishedStamps(t *testing.T) {
	list := []api.Event{opened(0), opened(1), opened(2), opened(3), begun(3, 0), begun(1, 0), begun(0, 0), begun(2, 0)}
	for i, tx := range []int{2, 0, 3, 1} {
		right := int64(i) + 1
		for _, stamp := range stamps(right) {
			mayCome(t, stamp == right, after(list, published(tx, stamp))...)
		}
		list = append(list, published(tx, right))
		if tx == 2 {
			list = append(list, complete(tx, right))
		}
	}
	// What was opened, begun or ended meanwhile doesn't count.
	mayCome(t, true, opened(0), begun(0, 0), ended(0, 0), opened(1), begun(1, 0), published(1, 1))
	mayCome(t, false, opened(0), begun(0, 0), ended(0, 0), opened(1), begun(1, 0), published(1, 2))
}

// P23.1: the stamp of EvComplete is its transaction's, and the next one of those that are complete.
func TestCompleteStamps(t *testing.T) {
	list := []api.Event{opened(0), opened(1), opened(2), begun(0, 0), begun(1, 0), begun(2, 0), published(1, 1), published(2, 2), published(0, 3)}
	own := map[int]int64{1: 1, 2: 2, 0: 3}
	for i, next := range []int{1, 2, 0} {
		right := int64(i) + 1
		for tx, published := range own {
			for _, stamp := range append(stamps(right), published, published+1) {
				over := count(list, api.EvComplete, tx) > 0
				mayCome(t, tx == next && stamp == right && !over, after(list, complete(tx, stamp))...)
			}
		}
		list = append(list, complete(next, right))
	}
}

// P23.1: there are no other kinds; what is wrong with an event of a known kind is not mended by them.
func TestKinds(t *testing.T) {
	run := []api.Event{opened(0), begun(0, 0)}
	for _, list := range [][]api.Event{nil, {opened(0)}, run, after(run, published(0, 1)), after(run, ended(0, 0)), slices.Concat(run, []api.Event{published(0, 1), complete(0, 1)})} {
		for kind := -300; kind <= 300; kind++ {
			if kind >= api.EvBegun && kind <= api.EvOpened {
				continue
			}
			mayCome(t, false, after(list, api.Event{Kind: kind})...)
		}
		for _, kind := range append(far(), 1<<32+api.EvOpened, 1<<16+api.EvBegun) {
			for _, tx := range []int{0, 1} {
				mayCome(t, false, after(list, api.Event{Kind: kind, Tx: tx, Stamp: 1})...)
			}
		}
	}
}

// P23.1: the place is that of the first event that may not come, wherever that stands, and however many there are.
func TestFirstPlace(t *testing.T) {
	h := told(opened(0), begun(0, 0), wrote(0, 1, 1), opened(1), begun(1, 0), read(1, 1, 0, 0), published(0, 1), opened(2), complete(0, 1), ended(1, api.ErrConflict), begun(2, 1), read(2, 1, 1, 1), ended(2, 0))
	newTally().holds(t, h, 2)
	for i := range h {
		for k := i; k < len(h); k++ {
			wrong := slices.Clone(h)
			wrong[i].Kind, wrong[k].Kind = 0, -1
			isNone(t, wrong, i)
			wrong = slices.Clone(h)
			wrong[i].At, wrong[k].At = -1, -2
			isNone(t, wrong, i)
		}
		// One left out: what it made possible is wrong, if there is such a one.
		newTally().holds(t, slices.Delete(slices.Clone(h), i, i+1), 2, []int{0, 1, 2}, []int{0, 1}, []int{2, 1, 0})
		// One told twice.
		newTally().holds(t, slices.Insert(slices.Clone(h), i, h[i]), 2, []int{0, 1, 2}, []int{2, 0, 1})
		// Two told the other way round.
		for k := range i {
			swapped := slices.Clone(h)
			swapped[i], swapped[k] = swapped[k], swapped[i]
			swapped[i].At, swapped[k].At = i, k
			newTally().holds(t, swapped, 2, []int{0, 1, 2}, []int{1, 0, 2})
		}
	}
}

// noise fills what does not matter in an event.
func noise(e api.Event, seed *strewn) api.Event {
	n := api.Event{Cell: int(seed.number()), Value: seed.number(), Own: seed.below(2) == 0, Start: seed.number(), Seen: seed.number(), Stamp: seed.number(), Err: api.Errno(seed.number())}
	n.Sig[seed.below(api.SigWords)] = uint64(seed.number())
	n.At, n.Thread, n.Tx, n.Kind = e.At, e.Thread, e.Tx, e.Kind
	switch e.Kind {
	case api.EvBegun:
		n.Seen = e.Seen
	case api.EvRead:
		n.Cell, n.Value, n.Seen = e.Cell, e.Value, e.Seen
	case api.EvWrote:
		n.Cell, n.Value = e.Cell, e.Value
	case api.EvPublished, api.EvComplete:
		n.Stamp = e.Stamp
	case api.EvEnded:
		n.Err = e.Err
	}
	return n
}

// What else stands in an event's fields does not matter.
func TestNoise(t *testing.T) {
	seed := strewn(81)
	all := newTally()
	for range 400 {
		h := seed.history(1+seed.below(5), 4+seed.below(30))
		filled := slices.Clone(h)
		for i, e := range filled {
			filled[i] = noise(e, &seed)
		}
		order := seed.order(count(h, api.EvOpened, -1))
		for _, list := range [][]api.Event{h, filled} {
			all.holds(t, list, 4, order)
		}
		if !sameAnswers(h, filled, order) {
			t.Fatalf("%+v and %+v", h, filled)
		}
	}
}
