package table_test

import (
	"fmt"
	"math"
	"math/big"
	"slices"
	"testing"

	"carousel/api"
	"carousel/table"
)

// made is a table that must be there.
func made(t *testing.T, most int) *table.Table {
	t.Helper()
	x, why := table.New(most)
	if x == nil || why != api.OK {
		t.Fatalf("New(%d): %v, error %d", most, x, why)
	}
	return x
}

// strewn gives numbers that are spread out, the same ones each time.
type strewn uint64

func (s *strewn) below(n int) int {
	*s = *s*6364136223846793005 + 1442695040888963407
	return int(uint64(*s>>33) % uint64(n))
}

// slotsFor is the chapter's SLOTS, by trying one power of two behind the other.
func slotsFor(most int) int {
	slots := 1
	for slots < 2*most {
		slots *= 2
	}
	return slots
}

// firstOf is the first slot of a cell, by numbers of any size.
func firstOf(cell, slots int) int {
	whole := new(big.Int).Lsh(big.NewInt(1), 64)
	word, _ := new(big.Int).SetString("9E3779B97F4A7C15", 16)
	word.Mul(word, big.NewInt(int64(cell)))
	word.Mod(word, whole)
	// Shifted to the right by 64 less k bits is: so many parts of 2^64, of which there are slots.
	word.Mul(word, big.NewInt(int64(slots)))
	return int(word.Div(word, whole).Int64())
}

// noCells are cells that may not be; some would be one that may, if bits of them fell away.
func noCells() []int {
	return []int{math.MinInt, math.MinInt64 + 5, math.MinInt32, -1024, -1019, -2, -1, 1024, 1025, 1029, 2048, math.MaxInt32, 1 << 32, 1<<32 + 5, 1 << 33, 1 << 62, math.MaxInt}
}

// plain is what the chapter says of a table, without any haste: all is searched from the beginning.
type plain struct {
	most   int
	slots  []int
	writes []api.Write
}

func plainOf(most int) *plain {
	p := &plain{most: most, slots: make([]int, slotsFor(most))}
	p.clear()
	return p
}

func (p *plain) clear() {
	p.writes = nil
	for i := range p.slots {
		p.slots[i] = -1
	}
}

func (p *plain) get(cell int) (int64, bool) {
	for _, w := range p.writes {
		if w.Cell == cell {
			return w.Value, true
		}
	}
	return 0, false
}

func (p *plain) put(cell int, v int64) api.Errno {
	if cell < 0 || cell > 1023 {
		return api.ErrArg
	}
	for i := range p.writes {
		if p.writes[i].Cell == cell {
			p.writes[i].Value = v
			return api.OK
		}
	}
	if len(p.writes) == p.most {
		return api.ErrFull
	}
	p.writes = append(p.writes, api.Write{Cell: cell, Value: v})
	slot := firstOf(cell, len(p.slots))
	for p.slots[slot] != -1 {
		slot++
		if slot == len(p.slots) {
			slot = 0
		}
	}
	p.slots[slot] = cell
	return api.OK
}

// same holds all that a table tells against what the plain one has.
func same(t *testing.T, what string, x *table.Table, p *plain) {
	t.Helper()
	if x.Len() != len(p.writes) {
		t.Errorf("%s: Len %d, not %d", what, x.Len(), len(p.writes))
	}
	if got := x.List(); !slices.Equal(got, p.writes) {
		t.Errorf("%s: List %v, not %v", what, got, p.writes)
	}
	if got := x.Slots(); !slices.Equal(got, p.slots) {
		t.Errorf("%s: Slots %v, not %v", what, got, p.slots)
	}
}

// sameGets holds what Get tells of some cells against the plain one.
func sameGets(t *testing.T, what string, x *table.Table, p *plain, cells []int) {
	t.Helper()
	for _, cell := range cells {
		v, ok := x.Get(cell)
		if want, there := p.get(cell); v != want || ok != there {
			t.Errorf("%s: Get(%d) %d %v, not %d %v", what, cell, v, ok, want, there)
		}
	}
}

// put does it to both, and holds the answers against each other.
func put(t *testing.T, what string, x *table.Table, p *plain, cell int, v int64) {
	t.Helper()
	if got, want := x.Put(cell, v), p.put(cell, v); got != want {
		t.Errorf("%s: Put(%d, %d) %d, not %d", what, cell, v, got, want)
	}
}

// allCells are the cells that may be, and some that may not.
func allCells() []int {
	cells := noCells()
	for cell := range api.MaxCells {
		cells = append(cells, cell)
	}
	return cells
}

// P5.1 to P5.5: the chapter's examples, in their order.
func TestExamples(t *testing.T) {
	x := made(t, 3)
	for cell, want := range []int{0, 4, 1, 6, 3, 0} {
		one := made(t, 3)
		one.Put(cell, 1)
		if got := slices.Index(one.Slots(), cell); got != want {
			t.Errorf("the first slot of %d: %d, not %d", cell, got, want)
		}
	}
	if a, b := x.Put(5, 50), x.Put(0, 7); a != api.OK || b != api.OK {
		t.Errorf("Put of 5 and 0: %d %d", a, b)
	}
	if got := x.Slots(); !slices.Equal(got, []int{5, 0, -1, -1, -1, -1, -1, -1}) {
		t.Errorf("Slots with 5 and 0: %v", got)
	}
	if why, got := x.Put(2, 9), x.Slots(); why != api.OK || !slices.Equal(got, []int{5, 0, 2, -1, -1, -1, -1, -1}) {
		t.Errorf("Put of 2: %d, Slots %v", why, got)
	}
	if a, b, n := x.Put(1, 1), x.Put(5, 51), x.Len(); a != api.ErrFull || b != api.OK || n != 3 {
		t.Errorf("Put of 1 and of 5 again: %d %d, Len %d", a, b, n)
	}
	if v, ok := x.Get(5); v != 51 || !ok {
		t.Errorf("Get(5): %d %v", v, ok)
	}
	if got := x.List(); !slices.Equal(got, []api.Write{{Cell: 5, Value: 51}, {Cell: 0, Value: 7}, {Cell: 2, Value: 9}}) {
		t.Errorf("List: %v", got)
	}
	if why := x.Put(-1, 0); why != api.ErrArg {
		t.Errorf("Put(-1, 0): %d", why)
	}
	for _, cell := range []int{-1, 1} {
		if v, ok := x.Get(cell); v != 0 || ok {
			t.Errorf("Get(%d): %d %v", cell, v, ok)
		}
	}
	x.Clear()
	if n, why := x.Len(), x.Put(1, 1); n != 0 || why != api.OK {
		t.Errorf("Clear: Len %d, Put(1, 1) %d", n, why)
	}
}

// P5.1: each number of cells that may be gives a table without cells; how many slots it has, is written out here.
func TestNew(t *testing.T) {
	slots := []int{2, 4, 8, 8, 16, 16, 16, 16, 32, 32, 32, 32, 32, 32, 32, 32, 64, 64, 64, 64, 64, 64, 64, 64}
	for i, want := range slots {
		most := i + 1
		x := made(t, most)
		if got := x.Slots(); len(got) != want {
			t.Errorf("New(%d): %d slots, not %d", most, len(got), want)
		}
		p := plainOf(most)
		what := fmt.Sprintf("New(%d)", most)
		same(t, what, x, p)
		sameGets(t, what, x, p, allCells())
	}
}

// P5.1: numbers of cells that no table has.
func TestNoTable(t *testing.T) {
	for _, most := range []int{math.MinInt, math.MinInt32, -24, -1, 0, 25, 26, 32, 64, 1024, math.MaxInt32, 1 << 32, 1<<32 + 1, 1<<32 + 24, 1 << 62, math.MaxInt} {
		if x, why := table.New(most); x != nil || why != api.ErrArg {
			t.Errorf("New(%d): %v, error %d", most, x, why)
		}
	}
}

// P5.2 and P5.4: the first slot of every cell, alone in a table of each size, and what is told of it.
func TestFirstSlots(t *testing.T) {
	for most := 1; most <= 24; most++ {
		for cell := range api.MaxCells {
			x, p := made(t, most), plainOf(most)
			what := fmt.Sprintf("New(%d), cell %d", most, cell)
			put(t, what, x, p, cell, int64(-cell))
			same(t, what, x, p)
			sameGets(t, what, x, p, []int{cell - 1, cell, cell + 1, -1})
		}
	}
}

// P5.2: a cell that may not be is refused, ahead of anything else, and nothing has changed.
func TestNoCells(t *testing.T) {
	for most := 1; most <= 24; most++ {
		x, p := made(t, most), plainOf(most)
		for n := 0; n <= most; n++ {
			for _, cell := range noCells() {
				what := fmt.Sprintf("New(%d), %d cells", most, n)
				if why := x.Put(cell, 9); why != api.ErrArg {
					t.Errorf("%s: Put(%d, 9): %d", what, cell, why)
				}
				same(t, what, x, p)
			}
			if n < most {
				put(t, "New", x, p, n*41, int64(n))
			}
		}
		sameGets(t, fmt.Sprintf("New(%d), full", most), x, p, allCells())
	}
}

// P5.2: the least and the greatest cell, and the least and the greatest numbers; 0 is a number too.
func TestEnds(t *testing.T) {
	for most := 2; most <= 24; most++ {
		x, p := made(t, most), plainOf(most)
		what := fmt.Sprintf("New(%d)", most)
		for _, v := range []int64{0, math.MinInt64, math.MaxInt64, -1, 1, 0} {
			put(t, what, x, p, 1023, v)
			put(t, what, x, p, 0, -v)
			same(t, what, x, p)
			sameGets(t, what, x, p, []int{0, 1, 1022, 1023, 1024, -1})
		}
	}
}

// P5.2: a full table takes what it has, and nothing else; what it refuses changes nothing.
func TestFull(t *testing.T) {
	for most := 1; most <= 24; most++ {
		x, p := made(t, most), plainOf(most)
		what := fmt.Sprintf("New(%d)", most)
		for i := range most {
			put(t, what, x, p, 1023-i*3, int64(i))
		}
		if x.Len() != most {
			t.Errorf("%s: Len %d", what, x.Len())
		}
		slots := x.Slots()
		for cell := range api.MaxCells {
			_, there := p.get(cell)
			want := api.ErrFull
			if there {
				want = api.OK
			}
			if why := x.Put(cell, int64(cell)+7); why != want {
				t.Errorf("%s, full: Put(%d) %d, not %d", what, cell, why, want)
			}
			p.put(cell, int64(cell)+7)
			same(t, what, x, p)
		}
		if !slices.Equal(x.Slots(), slots) {
			t.Errorf("%s, full: Slots %v, not %v any more", what, x.Slots(), slots)
		}
		sameGets(t, what, x, p, allCells())
	}
}

// crowd are cells whose first slot is the given one, of so many slots.
func crowd(slot, slots, n int) []int {
	var cells []int
	for cell := 0; cell < api.MaxCells && len(cells) < n; cell++ {
		if firstOf(cell, slots) == slot {
			cells = append(cells, cell)
		}
	}
	return cells
}

// P5.2 and P5.4: cells that all begin at one slot stand side by side, and behind the last slot from 0 on.
func TestCrowds(t *testing.T) {
	for most := 1; most <= 24; most++ {
		slots := slotsFor(most)
		for slot := range slots {
			x, p := made(t, most), plainOf(most)
			want := slices.Clone(p.slots)
			cells := crowd(slot, slots, most)
			for i, cell := range cells {
				put(t, "a crowd", x, p, cell, int64(i))
				want[(slot+i)%slots] = cell
			}
			what := fmt.Sprintf("New(%d), a crowd at %d", most, slot)
			if got := x.Slots(); !slices.Equal(got, want) {
				t.Errorf("%s: Slots %v, not %v", what, got, want)
			}
			for i, cell := range slices.Backward(cells) {
				put(t, what, x, p, cell, int64(i)*100)
			}
			same(t, what, x, p)
			sameGets(t, what, x, p, crowd(slot, slots, api.MaxCells))
			sameGets(t, what, x, p, crowd((slot+1)%slots, slots, api.MaxCells))
		}
	}
}

// P5.2 to P5.6: all ways of four puts of six cells, in small tables.
func TestAllShortLives(t *testing.T) {
	cells := []int{0, 1, 2, 3, 4, 5}
	for most := 1; most <= 4; most++ {
		for which := range 6 * 6 * 6 * 6 {
			x, p := made(t, most), plainOf(most)
			what := fmt.Sprintf("New(%d), which %d", most, which)
			rest := which
			for i := range 4 {
				put(t, what, x, p, cells[rest%6], int64(i+1))
				rest /= 6
				same(t, what, x, p)
				holds(t, what, x)
			}
			sameGets(t, what, x, p, cells)
		}
	}
}

// holds asks what P5.6 says of where cells stand, by the table's own answers alone.
func holds(t *testing.T, what string, x *table.Table) {
	t.Helper()
	slots := x.Slots()
	stands := map[int]int{}
	for slot, cell := range slots {
		if cell == -1 {
			continue
		}
		if _, twice := stands[cell]; twice {
			t.Errorf("%s: %d stands in two slots of %v", what, cell, slots)
		}
		stands[cell] = slot
		for on := firstOf(cell, len(slots)); on != slot; on = (on + 1) % len(slots) {
			if slots[on] == -1 {
				t.Errorf("%s: the slot %d has nothing, ahead of %d in %v", what, on, cell, slots)
			}
		}
	}
	list := x.List()
	if len(stands) != len(list) || len(list) != x.Len() {
		t.Errorf("%s: %d cells in slots, %d in the list, Len %d", what, len(stands), len(list), x.Len())
	}
	for _, w := range list {
		if _, there := stands[w.Cell]; !there {
			t.Errorf("%s: %d stands in no slot of %v", what, w.Cell, slots)
		}
		if v, ok := x.Get(w.Cell); v != w.Value || !ok {
			t.Errorf("%s: Get(%d) %d %v, but the list says %d", what, w.Cell, v, ok, w.Value)
		}
	}
}

// P5.2 to P5.6: long lives of tables of each size, cleared now and then; the last number that was laid down is told.
func TestLongLives(t *testing.T) {
	s := strewn(5)
	for most := 1; most <= 24; most++ {
		x, p := made(t, most), plainOf(most)
		last := map[int]int64{}
		for step := range 3000 {
			what := fmt.Sprintf("New(%d), step %d", most, step)
			cell, v := s.below(2*most)*37%1030-1, int64(s.below(1000)-500)
			if s.below(8*most) == 0 {
				x.Clear()
				p.clear()
				clear(last)
			}
			why := x.Put(cell, v)
			if want := p.put(cell, v); why != want {
				t.Errorf("%s: Put(%d, %d) %d, not %d", what, cell, v, why, want)
			}
			if why == api.OK {
				last[cell] = v
			}
			same(t, what, x, p)
			holds(t, what, x)
			asked := s.below(2*most)*37%1030 - 1
			got, ok := x.Get(asked)
			if want, there := last[asked]; got != want || ok != there {
				t.Errorf("%s: Get(%d) %d %v, not %d %v", what, asked, got, ok, want, there)
			}
		}
	}
}

// P5.3 and P5.4: asking changes nothing, not even asking for cells that aren't there.
func TestAskingChangesNothing(t *testing.T) {
	x, p := made(t, 5), plainOf(5)
	for _, cell := range []int{900, 3, 8, 13} {
		put(t, "asking", x, p, cell, int64(cell))
	}
	for range 2 {
		sameGets(t, "asking", x, p, allCells())
		same(t, "asking", x, p)
	}
	put(t, "asking", x, p, 6, 6)
	same(t, "asked", x, p)
}

// P5.5: behind Clear a table is as New made it, however full it was; it takes as many cells as before, in slots and in an order of their own.
func TestClear(t *testing.T) {
	for most := 1; most <= 24; most++ {
		x := made(t, most)
		for n := 0; n <= most; n++ {
			p := plainOf(most)
			what := fmt.Sprintf("New(%d), cleared of %d", most, n)
			for i := range n {
				put(t, what, x, p, i*29, int64(i+1))
			}
			x.Clear()
			p.clear()
			same(t, what, x, p)
			sameGets(t, what, x, p, allCells())
			x.Clear()
			same(t, what, x, p)
			for i := range most + 1 {
				put(t, what, x, p, 1000-i*31, int64(-i))
				same(t, what, x, p)
			}
			sameGets(t, what, x, p, allCells())
			x.Clear()
		}
	}
}

// spoil writes over a list and its spare room.
func spoil[E any](list []E, with E) {
	room := list[:cap(list)]
	for i := range room {
		room[i] = with
	}
	_ = append(list, with)
}

// R3: lists that were handed out share no memory with the table or with each other, their spare room neither.
func TestListsAreNewMemory(t *testing.T) {
	for most := 1; most <= 24; most++ {
		x, p := made(t, most), plainOf(most)
		for n := 0; n <= most; n++ {
			what := fmt.Sprintf("New(%d), %d cells", most, n)
			list, slots := x.List(), x.Slots()
			spoil(x.List(), api.Write{Cell: 77, Value: 77})
			spoil(x.Slots(), 77)
			same(t, what, x, p)
			sameGets(t, what, x, p, []int{77, 0, 43})
			if !slices.Equal(list, p.writes) || !slices.Equal(slots, p.slots) {
				t.Errorf("%s: a list changed with another one: %v, %v", what, list, slots)
			}
			if n < most {
				wasList, wasSlots := slices.Clone(p.writes), slices.Clone(p.slots)
				put(t, what, x, p, n*43, int64(n))
				put(t, what, x, p, 0, int64(n)+100)
				if !slices.Equal(list, wasList) || !slices.Equal(slots, wasSlots) {
					t.Errorf("%s: a list changed with the table: %v, %v", what, list, slots)
				}
			}
		}
		list, slots := x.List(), x.Slots()
		x.Clear()
		if !slices.Equal(list, p.writes) || !slices.Equal(slots, p.slots) {
			t.Errorf("New(%d): a list changed with Clear: %v, %v", most, list, slots)
		}
	}
}

// R4: two tables beside each other know nothing of one another.
func TestTablesApart(t *testing.T) {
	for most := 1; most <= 24; most++ {
		for _, other := range []int{most, 25 - most} {
			x, p := made(t, most), plainOf(most)
			y, q := made(t, other), plainOf(other)
			what := fmt.Sprintf("New(%d) beside New(%d)", most, other)
			for i := range 30 {
				put(t, what, x, p, i*11, int64(i))
				same(t, what, y, q)
				put(t, what, y, q, i*7, int64(-i))
				same(t, what, x, p)
			}
			x.Clear()
			same(t, what, y, q)
			sameGets(t, what, y, q, allCells())
			p.clear()
			same(t, what, x, p)
			same(t, what, made(t, other), plainOf(other))
		}
	}
}

// R4: the same calls give the same answers each time.
func TestSameCallsSameAnswers(t *testing.T) {
	x, y := made(t, 24), made(t, 24)
	for i := range 100 {
		cell, v := i*17%61, int64(i)
		if a, b := x.Put(cell, v), y.Put(cell, v); a != b {
			t.Errorf("Put(%d, %d): %d and %d", cell, v, a, b)
		}
	}
	if !slices.Equal(x.List(), y.List()) || !slices.Equal(x.Slots(), y.Slots()) {
		t.Errorf("%v and %v", x.Slots(), y.Slots())
	}
}

// R1: a nil table takes nothing and has nothing.
func TestNilTable(t *testing.T) {
	var x *table.Table
	for _, cell := range allCells() {
		if why := x.Put(cell, 1); why != api.ErrArg {
			t.Errorf("Put(%d, 1): %d", cell, why)
		}
		if v, ok := x.Get(cell); v != 0 || ok {
			t.Errorf("Get(%d): %d %v", cell, v, ok)
		}
	}
	x.Clear()
	if n, list, slots := x.Len(), x.List(), x.Slots(); n != 0 || len(list) != 0 || len(slots) != 0 {
		t.Errorf("Len %d, List %v, Slots %v", n, list, slots)
	}
}
