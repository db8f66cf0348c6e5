package txlog_test

import (
	"fmt"
	"math"
	"slices"
	"testing"

	"carousel/api"
	"carousel/shift"
	"carousel/sig"
	"carousel/table"
	"carousel/txlog"
)

// made is a log that must be there.
func made(t *testing.T, most int) *txlog.Log {
	t.Helper()
	l, why := txlog.New(most)
	if l == nil || why != api.OK {
		t.Fatalf("New(%d): %v, error %d", most, l, why)
	}
	return l
}

// strewn gives numbers that are spread out, the same ones each time.
type strewn uint64

func (s *strewn) below(n int) int {
	*s = *s*6364136223846793005 + 1442695040888963407
	return int(uint64(*s>>33) % uint64(n))
}

// noCells are cells that may not be; some would be one that may, if bits of them fell away.
func noCells() []int {
	return []int{math.MinInt, math.MinInt64 + 5, math.MinInt32, -1024, -1019, -2, -1, 1024, 1025, 1029, 2048, math.MaxInt32, 1 << 32, 1<<32 + 5, 1 << 33, 1 << 62, math.MaxInt}
}

// allCells are the cells that may be, and some that may not.
func allCells() []int {
	cells := noCells()
	for cell := range api.MaxCells {
		cells = append(cells, cell)
	}
	return cells
}

// plain is what the chapter says of a log, without any haste: two lists, searched from the beginning.
type plain struct {
	most   int
	writes []api.Write
	reads  []int
}

func (p *plain) own(cell int) (int64, bool) {
	for _, w := range p.writes {
		if w.Cell == cell {
			return w.Value, true
		}
	}
	return 0, false
}

func (p *plain) write(cell int, v int64) api.Errno {
	if cell < 0 || cell > 1023 {
		return api.ErrArg
	}
	for i := range p.writes {
		if p.writes[i].Cell == cell {
			p.writes[i].Value = v
			return api.OK
		}
	}
	if len(p.writes) == p.most {
		return api.ErrTooBig
	}
	p.writes = append(p.writes, api.Write{Cell: cell, Value: v})
	return api.OK
}

func (p *plain) read(cell int) {
	if cell >= 0 && cell <= 1023 {
		p.reads = append(p.reads, cell)
	}
}

func (p *plain) clear() { p.writes, p.reads = nil, nil }

// bitsOf is a signature laid bit by bit.
func bitsOf(cells []int) api.Sig {
	var s api.Sig
	for _, cell := range cells {
		k := shift.SigHash(cell)
		s[k/64] |= 1 << (k % 64)
	}
	return s
}

func (p *plain) written() []int {
	var cells []int
	for _, w := range p.writes {
		cells = append(cells, w.Cell)
	}
	return cells
}

// same holds all that a log tells, but Own, against what the plain one has.
func same(t *testing.T, what string, l *txlog.Log, p *plain) {
	t.Helper()
	if got := l.Writes(); !slices.Equal(got, p.writes) {
		t.Errorf("%s: Writes %v, not %v", what, got, p.writes)
	}
	if got, want := l.Sig(), bitsOf(p.written()); got != want {
		t.Errorf("%s: Sig %v, not %v", what, sig.Bits(got), sig.Bits(want))
	}
	if got, want := l.Reads(), bitsOf(p.reads); got != want {
		t.Errorf("%s: Reads %v, not %v", what, sig.Bits(got), sig.Bits(want))
	}
}

// sameOwn holds what Own tells of some cells against the plain one.
func sameOwn(t *testing.T, what string, l *txlog.Log, p *plain, cells []int) {
	t.Helper()
	for _, cell := range cells {
		v, ok := l.Own(cell)
		if want, there := p.own(cell); v != want || ok != there {
			t.Errorf("%s: Own(%d) %d %v, not %d %v", what, cell, v, ok, want, there)
		}
	}
}

// write does it to both, and holds the answers against each other.
func write(t *testing.T, what string, l *txlog.Log, p *plain, cell int, v int64) {
	t.Helper()
	if got, want := l.Write(cell, v), p.write(cell, v); got != want {
		t.Errorf("%s: Write(%d, %d) %d, not %d", what, cell, v, got, want)
	}
}

// read does it to both.
func read(l *txlog.Log, p *plain, cell int) {
	l.Read(cell)
	p.read(cell)
}

// P6.1 to P6.6: the chapter's examples, in their order.
func TestExamples(t *testing.T) {
	l := made(t, 2)
	if a, b, c := l.Write(7, 1), l.Write(9, 2), l.Write(3, 3); a != api.OK || b != api.OK || c != api.ErrTooBig {
		t.Errorf("Write of 7, 9, 3: %d %d %d", a, b, c)
	}
	if got := l.Sig(); got != sig.Of(7, 9) {
		t.Errorf("Sig: %v", sig.Bits(got))
	}
	if why := l.Write(7, 5); why != api.OK {
		t.Errorf("Write of 7 again: %d", why)
	}
	if got := l.Writes(); !slices.Equal(got, []api.Write{{Cell: 7, Value: 5}, {Cell: 9, Value: 2}}) {
		t.Errorf("Writes: %v", got)
	}
	if v, ok := l.Own(7); v != 5 || !ok {
		t.Errorf("Own(7): %d %v", v, ok)
	}
	if v, ok := l.Own(3); v != 0 || ok {
		t.Errorf("Own(3): %d %v", v, ok)
	}
	l.Read(3)
	l.Read(3)
	l.Read(-1)
	if got := l.Reads(); got != sig.Of(3) {
		t.Errorf("Reads: %v", sig.Bits(got))
	}
	l.Clear()
	if !sig.Empty(l.Reads()) || !sig.Empty(l.Sig()) {
		t.Errorf("Clear: Reads %v, Sig %v", sig.Bits(l.Reads()), sig.Bits(l.Sig()))
	}
}

// P6.1: each number of cells that may be gives a log that knows of no cell, and takes just so many.
func TestNew(t *testing.T) {
	for most := 1; most <= 24; most++ {
		l, p := made(t, most), &plain{most: most}
		what := fmt.Sprintf("New(%d)", most)
		same(t, what, l, p)
		sameOwn(t, what, l, p, allCells())
		for i := range most {
			if why := l.Write(i, 1); why != api.OK {
				t.Errorf("%s: the write %d: %d", what, i+1, why)
			}
		}
		if why := l.Write(most, 1); why != api.ErrTooBig {
			t.Errorf("%s: the write %d: %d", what, most+1, why)
		}
	}
}

// P6.1: numbers of cells that no log has.
func TestNoLog(t *testing.T) {
	for _, most := range []int{math.MinInt, math.MinInt32, -24, -1, 0, 25, 26, 32, 64, 1024, math.MaxInt32, 1 << 32, 1<<32 + 1, 1<<32 + 24, 1 << 62, math.MaxInt} {
		if l, why := txlog.New(most); l != nil || why != api.ErrArg {
			t.Errorf("New(%d): %v, error %d", most, l, why)
		}
	}
}

// P6.2 to P6.5: every cell, alone in a log, written or read: it is known there and in its signature, and in nothing else.
func TestOneCell(t *testing.T) {
	for cell := range api.MaxCells {
		l, p := made(t, 1), &plain{most: 1}
		what := fmt.Sprintf("written %d", cell)
		write(t, what, l, p, cell, int64(-cell))
		same(t, what, l, p)
		sameOwn(t, what, l, p, []int{cell - 1, cell, cell + 1, -1})

		l, p = made(t, 1), &plain{most: 1}
		what = fmt.Sprintf("read %d", cell)
		read(l, p, cell)
		same(t, what, l, p)
		sameOwn(t, what, l, p, []int{cell - 1, cell, cell + 1, -1})
		if got := l.Reads(); got != sig.Of(cell) {
			t.Errorf("%s: Reads %v", what, sig.Bits(got))
		}
	}
}

// P6.2: a cell that may not be is ErrArg, in a full log too, and nothing has changed.
func TestWriteNoCells(t *testing.T) {
	for most := 1; most <= 24; most++ {
		l, p := made(t, most), &plain{most: most}
		for n := 0; n <= most; n++ {
			what := fmt.Sprintf("New(%d), %d cells", most, n)
			for _, cell := range noCells() {
				if why := l.Write(cell, 9); why != api.ErrArg {
					t.Errorf("%s: Write(%d, 9): %d", what, cell, why)
				}
				same(t, what, l, p)
			}
			if n < most {
				write(t, what, l, p, n*41, int64(n))
				read(l, p, n*3+1)
			}
		}
		sameOwn(t, fmt.Sprintf("New(%d), full", most), l, p, allCells())
	}
}

// P6.2: a full log takes the cells that it has, and ErrTooBig is told of all others; those change nothing, the signatures neither.
func TestTooBig(t *testing.T) {
	for most := 1; most <= 24; most++ {
		l, p := made(t, most), &plain{most: most}
		what := fmt.Sprintf("New(%d)", most)
		for i := range most {
			write(t, what, l, p, 1023-i*3, int64(i))
			read(l, p, i*5)
		}
		writes, written, reads := l.Writes(), l.Sig(), l.Reads()
		for cell := range api.MaxCells {
			v, there := l.Own(cell)
			want := api.ErrTooBig
			if there {
				want = api.OK
			}
			if why := l.Write(cell, v); why != want {
				t.Errorf("%s, full: Write(%d) %d, not %d", what, cell, why, want)
			}
			if l.Sig() != written || l.Reads() != reads || !slices.Equal(l.Writes(), writes) {
				t.Fatalf("%s, full: Write(%d) changed the log", what, cell)
			}
			if again, ok := l.Own(cell); again != v || ok != there {
				t.Errorf("%s, full: Own(%d) %d %v, not %d %v", what, cell, again, ok, v, there)
			}
		}
		same(t, what, l, p)
	}
}

// P6.2 and P6.3: the least and the greatest cell, and the least and the greatest numbers; a cell that becomes 0 is written, too.
func TestEnds(t *testing.T) {
	l, p := made(t, 2), &plain{most: 2}
	for _, v := range []int64{0, math.MinInt64, math.MaxInt64, -1, 1, 0} {
		write(t, "ends", l, p, 1023, v)
		write(t, "ends", l, p, 0, -v)
		same(t, "ends", l, p)
		sameOwn(t, "ends", l, p, allCells())
	}
	if v, ok := l.Own(0); v != 0 || !ok {
		t.Errorf("Own(0): %d %v", v, ok)
	}
}

// P6.4: cells that may not be are not read, whatever stands there already.
func TestReadNoCells(t *testing.T) {
	l, p := made(t, 3), &plain{most: 3}
	for n := range 20 {
		for _, cell := range noCells() {
			l.Read(cell)
			same(t, fmt.Sprintf("%d cells read, Read(%d)", n, cell), l, p)
		}
		read(l, p, n*53)
	}
	same(t, "20 cells read", l, p)
}

// P6.4: there is no end to what may be read, once or many times; each cell's bit is there from its Read on.
func TestReadAll(t *testing.T) {
	l, p := made(t, 1), &plain{most: 1}
	for range 2 {
		for cell := range api.MaxCells {
			read(l, p, cell)
			if !sig.Has(l.Reads(), cell) {
				t.Errorf("Read(%d): Reads hasn't it", cell)
			}
		}
		same(t, "all read", l, p)
	}
}

// P6.4 and P6.7: a cell that is written is read as any other, ahead of its Write or behind it.
func TestReadAndWritten(t *testing.T) {
	for cell := range api.MaxCells {
		what := fmt.Sprintf("read and written %d", cell)
		l, p := made(t, 2), &plain{most: 2}
		read(l, p, cell)
		same(t, what, l, p)
		write(t, what, l, p, cell, 4)
		same(t, what, l, p)
		read(l, p, cell)
		same(t, what, l, p)

		l, p = made(t, 2), &plain{most: 2}
		write(t, what, l, p, cell, 4)
		read(l, p, cell)
		same(t, what, l, p)
		sameOwn(t, what, l, p, []int{cell})
		if l.Reads() != l.Sig() {
			t.Errorf("%s: Reads %v, Sig %v", what, sig.Bits(l.Reads()), sig.Bits(l.Sig()))
		}
	}
}

// twins are two cells that have one bit.
func twins(t *testing.T) (int, int) {
	t.Helper()
	first := map[int]int{}
	for cell := range api.MaxCells {
		k := shift.SigHash(cell)
		if other, there := first[k]; there {
			return other, cell
		}
		first[k] = cell
	}
	t.Fatal("no two cells have one bit")
	return 0, 0
}

// P6.2, P6.3 and P6.5: cells that have one bit are written apart from each other, though the signature has but that bit.
func TestTwins(t *testing.T) {
	a, b := twins(t)
	l, p := made(t, 2), &plain{most: 2}
	write(t, "twins", l, p, a, 1)
	sameOwn(t, "twins", l, p, []int{a, b})
	write(t, "twins", l, p, b, 2)
	sameOwn(t, "twins", l, p, []int{a, b})
	same(t, "twins", l, p)
	if got := sig.Bits(l.Sig()); len(got) != 1 {
		t.Errorf("Sig of %d and %d: %v", a, b, got)
	}
	l = made(t, 1)
	l.Write(a, 1)
	if why := l.Write(b, 2); why != api.ErrTooBig {
		t.Errorf("Write of %d beside %d: %d", b, a, why)
	}
}

// P6.5: Writes is what the List of a table tells to which the same was put.
func TestWritesAsList(t *testing.T) {
	s := strewn(11)
	for most := 1; most <= 24; most++ {
		l := made(t, most)
		x, _ := table.New(most)
		for range 200 {
			cell, v := s.below(2*most)*37%1030-1, int64(s.below(1000)-500)
			l.Write(cell, v)
			x.Put(cell, v)
			if got, want := l.Writes(), x.List(); !slices.Equal(got, want) {
				t.Errorf("New(%d): Writes %v, List %v", most, got, want)
			}
		}
	}
}

// P6.6: behind Clear a log is as New made it, however much was read and written; it takes as many cells as before.
func TestClear(t *testing.T) {
	for most := 1; most <= 24; most++ {
		l := made(t, most)
		for n := 0; n <= most; n++ {
			p := &plain{most: most}
			what := fmt.Sprintf("New(%d), cleared of %d", most, n)
			for i := range n {
				write(t, what, l, p, i*29, int64(i+1))
				read(l, p, i*31)
			}
			same(t, what, l, p)
			for range 2 {
				l.Clear()
				p.clear()
				same(t, what, l, p)
			}
			sameOwn(t, what, l, p, allCells())
			for i := range most + 1 {
				write(t, what, l, p, 1000-i*31, int64(-i))
				read(l, p, 1000-i*17)
				same(t, what, l, p)
			}
			sameOwn(t, what, l, p, allCells())
			l.Clear()
		}
	}
}

// P6.6: Clear forgets what was read, though nothing is written, and what is written, though nothing was read.
func TestClearOfOne(t *testing.T) {
	l, p := made(t, 1), &plain{most: 1}
	l.Read(1)
	l.Clear()
	same(t, "cleared of a read", l, p)
	l.Write(1, 1)
	l.Clear()
	same(t, "cleared of a write", l, p)
	sameOwn(t, "cleared", l, p, allCells())
}

// P6.2 to P6.7: all ways of five calls, of reads and writes of three cells, of a cell that may not be, and of Clear.
func TestAllShortLives(t *testing.T) {
	const calls = 9
	for most := 1; most <= 2; most++ {
		for which := range calls * calls * calls * calls * calls {
			l, p := made(t, most), &plain{most: most}
			what := fmt.Sprintf("New(%d), which %d", most, which)
			rest := which
			for i := range 5 {
				call := rest % calls
				rest /= calls
				cell := call%4 - 1
				switch {
				case call == calls-1:
					l.Clear()
					p.clear()
				case call < 4:
					read(l, p, cell)
				default:
					write(t, what, l, p, cell, int64(i+1))
				}
			}
			same(t, what, l, p)
			sameOwn(t, what, l, p, []int{-1, 0, 1, 2})
		}
	}
}

// P6.2 to P6.7: long lives of logs of each size, cleared now and then, asked behind every call.
func TestLongLives(t *testing.T) {
	s := strewn(6)
	for most := 1; most <= 24; most++ {
		l, p := made(t, most), &plain{most: most}
		for step := range 1500 {
			what := fmt.Sprintf("New(%d), step %d", most, step)
			cell := s.below(2*most)*37%1030 - 1
			switch s.below(3) {
			case 0:
				read(l, p, s.below(1030)-3)
			default:
				write(t, what, l, p, cell, int64(s.below(1000)-500))
			}
			if s.below(8*most) == 0 {
				l.Clear()
				p.clear()
			}
			same(t, what, l, p)
			sameOwn(t, what, l, p, []int{cell, s.below(1030) - 3})
		}
	}
}

// P6.7: Sig is sig.Of of the cells of Writes.
func TestSigOfWrites(t *testing.T) {
	s := strewn(7)
	for most := 1; most <= 24; most++ {
		l := made(t, most)
		for range 300 {
			l.Write(s.below(1030)-3, int64(s.below(9)))
			l.Read(s.below(1030) - 3)
			if s.below(40) == 0 {
				l.Clear()
			}
			var cells []int
			for _, w := range l.Writes() {
				cells = append(cells, w.Cell)
			}
			if got, want := l.Sig(), sig.Of(cells...); got != want {
				t.Errorf("New(%d): Sig %v, of %v", most, sig.Bits(got), cells)
			}
		}
	}
}

// P6.7: what is read tells nothing of Sig, Writes and Own; what is written, or refused, nothing of Reads.
func TestReadsAndSigApart(t *testing.T) {
	l, p := made(t, 4), &plain{most: 4}
	for _, cell := range []int{5, 900, 33} {
		write(t, "apart", l, p, cell, int64(cell))
	}
	for _, cell := range allCells() {
		read(l, p, cell)
		if got := l.Sig(); got != sig.Of(5, 900, 33) {
			t.Errorf("Read(%d): Sig %v", cell, sig.Bits(got))
		}
	}
	sameOwn(t, "apart", l, p, allCells())
	same(t, "apart", l, p)

	l, p = made(t, 4), &plain{most: 4}
	for _, cell := range []int{5, 900, 33} {
		read(l, p, cell)
	}
	for _, cell := range allCells() {
		write(t, "apart", l, p, cell, 1)
		if got := l.Reads(); got != sig.Of(5, 900, 33) {
			t.Errorf("Write(%d): Reads %v", cell, sig.Bits(got))
		}
	}
	same(t, "apart", l, p)
}

// P6.3 and P6.5: asking changes nothing, not even asking for cells that aren't there.
func TestAskingChangesNothing(t *testing.T) {
	l, p := made(t, 5), &plain{most: 5}
	for _, cell := range []int{900, 3, 8, 13} {
		write(t, "asking", l, p, cell, int64(cell))
		read(l, p, cell+1)
	}
	for range 2 {
		sameOwn(t, "asking", l, p, allCells())
		same(t, "asking", l, p)
	}
	write(t, "asking", l, p, 6, 6)
	same(t, "asked", l, p)
}

// The chapter's Ways: the methods of the table are the log's, too, and tell of the same cells; also what is put by them is in Sig.
func TestPromoted(t *testing.T) {
	l, p := made(t, 3), &plain{most: 3}
	write(t, "promoted", l, p, 5, 50)
	write(t, "promoted", l, p, 0, 7)
	if v, ok := l.Get(5); v != 50 || !ok || l.Len() != 2 {
		t.Errorf("Get(5): %d %v, Len %d", v, ok, l.Len())
	}
	if got := l.Slots(); !slices.Equal(got, []int{5, 0, -1, -1, -1, -1, -1, -1}) {
		t.Errorf("Slots: %v", got)
	}
	if got := l.List(); !slices.Equal(got, p.writes) {
		t.Errorf("List: %v, not %v", got, p.writes)
	}
	if got, want := l.Put(2, 9), p.write(2, 9); got != want {
		t.Errorf("Put(2, 9): %d, not %d", got, want)
	}
	same(t, "promoted", l, p)
	sameOwn(t, "promoted", l, p, []int{0, 1, 2, 3, 4, 5})
	l.Clear()
	if l.Len() != 0 {
		t.Errorf("Clear: Len %d", l.Len())
	}
}

// spoil writes over a list and its spare room.
func spoil(list []api.Write) {
	with := api.Write{Cell: 77, Value: 77}
	room := list[:cap(list)]
	for i := range room {
		room[i] = with
	}
	_ = append(list, with)
}

// R3: what was handed out shares no memory with the log or with another list, its spare room neither.
func TestAnswersAreNewMemory(t *testing.T) {
	for most := 1; most <= 24; most++ {
		l, p := made(t, most), &plain{most: most}
		for n := 0; n <= most; n++ {
			what := fmt.Sprintf("New(%d), %d cells", most, n)
			list := l.Writes()
			spoil(l.Writes())
			reads, written := l.Reads(), l.Sig()
			reads[3], written[3] = ^reads[3], ^written[3]
			same(t, what, l, p)
			sameOwn(t, what, l, p, []int{77, 0, 43})
			if !slices.Equal(list, p.writes) {
				t.Errorf("%s: a list changed with another one: %v", what, list)
			}
			if n < most {
				was := slices.Clone(p.writes)
				write(t, what, l, p, n*43, int64(n))
				write(t, what, l, p, 0, int64(n)+100)
				read(l, p, n)
				if !slices.Equal(list, was) {
					t.Errorf("%s: a list changed with the log: %v", what, list)
				}
			}
		}
		list := l.Writes()
		l.Clear()
		if !slices.Equal(list, p.writes) {
			t.Errorf("New(%d): a list changed with Clear: %v", most, list)
		}
	}
}

// R4: two logs beside each other know nothing of one another.
func TestLogsApart(t *testing.T) {
	for most := 1; most <= 24; most++ {
		for _, other := range []int{most, 25 - most} {
			l, p := made(t, most), &plain{most: most}
			m, q := made(t, other), &plain{most: other}
			what := fmt.Sprintf("New(%d) beside New(%d)", most, other)
			for i := range 30 {
				write(t, what, l, p, i*11, int64(i))
				read(l, p, i*13)
				same(t, what, m, q)
				write(t, what, m, q, i*7, int64(-i))
				read(m, q, i*17)
				same(t, what, l, p)
			}
			l.Clear()
			same(t, what, m, q)
			sameOwn(t, what, m, q, allCells())
			p.clear()
			same(t, what, l, p)
			same(t, what, made(t, other), &plain{most: other})
		}
	}
}

// R4: the same calls give the same answers each time.
func TestSameCallsSameAnswers(t *testing.T) {
	l, m := made(t, 24), made(t, 24)
	for i := range 100 {
		cell, v := i*17%61, int64(i)
		if a, b := l.Write(cell, v), m.Write(cell, v); a != b {
			t.Errorf("Write(%d, %d): %d and %d", cell, v, a, b)
		}
		l.Read(cell + 1)
		m.Read(cell + 1)
	}
	if !slices.Equal(l.Writes(), m.Writes()) || l.Sig() != m.Sig() || l.Reads() != m.Reads() {
		t.Errorf("%v and %v", l.Writes(), m.Writes())
	}
}

// R1: a nil log takes nothing and has nothing.
func TestNilLog(t *testing.T) {
	var l *txlog.Log
	for _, cell := range allCells() {
		if why := l.Write(cell, 1); why != api.ErrArg {
			t.Errorf("Write(%d, 1): %d", cell, why)
		}
		if v, ok := l.Own(cell); v != 0 || ok {
			t.Errorf("Own(%d): %d %v", cell, v, ok)
		}
		l.Read(cell)
	}
	l.Clear()
	if reads, written, list := l.Reads(), l.Sig(), l.Writes(); !sig.Empty(reads) || !sig.Empty(written) || len(list) != 0 {
		t.Errorf("Reads %v, Sig %v, Writes %v", reads, written, list)
	}
}
