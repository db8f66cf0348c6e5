package history

import (
	"cmp"
	"math"
	"slices"

	"carousel/api"
)

// How far a transaction has come.
const (
	opened = iota
	begun
	published
	over
)

// memory is all cells that there may be.
type memory [api.MaxCells]int64

// access is a read or a write of a transaction.
type access struct {
	cell   int
	value  int64
	writes bool
}

// tx is a transaction, as far as its events were gone through.
type tx struct {
	api.Tx
	stage    int
	accesses []access
}

// begin: it begins.
func (x *tx) begin(e api.Event) bool {
	if x.stage != opened {
		return false
	}
	x.stage = begun
	x.Seen = e.Seen
	return true
}

// touch: it reads or writes a cell.
func (x *tx) touch(e api.Event) bool {
	if x.stage != begun || e.Cell < 0 || e.Cell >= api.MaxCells {
		return false
	}
	writes := e.Kind == api.EvWrote
	if !writes {
		x.Seen = max(x.Seen, e.Seen)
	}
	x.accesses = append(x.accesses, access{e.Cell, e.Value, writes})
	return true
}

// end: it ends, and has published nothing.
func (x *tx) end(e api.Event) bool {
	if x.stage != begun {
		return false
	}
	x.stage = over
	x.Ended, x.Err = e.At, e.Err
	return true
}

// place is where a transaction stands among all.
type place struct {
	stamp  int64
	behind int // 1: behind the one that published this stamp; 0: it did so itself
}

// stands is its place.
func (x *tx) stands() place {
	if x.Stamp > 0 {
		return place{x.Stamp, 0}
	}
	return place{x.Seen, 1}
}

// compare: which of two places comes first?
func (p place) compare(q place) int {
	return cmp.Or(cmp.Compare(p.stamp, q.stamp), cmp.Compare(p.behind, q.behind))
}

// agrees: does each of its reads tell what it wrote last to that cell itself, else what the cell is?
func (x *tx) agrees(cells *memory) bool {
	own := map[int]int64{}
	for _, a := range x.accesses {
		if a.writes {
			own[a.cell] = a.value
			continue
		}
		is, wrote := own[a.cell]
		if !wrote {
			is = cells[a.cell]
		}
		if a.value != is {
			return false
		}
	}
	return true
}

// leave lays down what it wrote, if it has published that.
func (x *tx) leave(cells *memory) {
	if x.Stamp == 0 {
		return
	}
	for _, a := range x.accesses {
		if a.writes {
			cells[a.cell] = a.value
		}
	}
}

// legal: do all agree with what those ahead of them left?
func legal(list []*tx) bool {
	var cells memory
	for _, x := range list {
		if !x.agrees(&cells) {
			return false
		}
		x.leave(&cells)
	}
	return true
}

// timely: does each that was done ahead of another one's beginning stand ahead of that one?
func timely(list []*tx) bool {
	// The least moment at which one behind was done stands for all of them: so one pass is enough.
	least := math.MaxInt
	for _, x := range slices.Backward(list) {
		if least < x.Begun {
			return false
		}
		if x.Ended >= 0 {
			least = min(least, x.Ended)
		}
	}
	return true
}
