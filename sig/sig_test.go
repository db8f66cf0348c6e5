package sig_test

import (
	"fmt"
	"math"
	"math/big"
	"slices"
	"strings"
	"testing"

	"carousel/api"
	"carousel/shift"
	"carousel/sig"
)

// full has all bits.
func full() api.Sig {
	var s api.Sig
	for i := range s {
		s[i] = math.MaxUint64
	}
	return s
}

// oneBit has the bit k alone.
func oneBit(k int) api.Sig {
	var s api.Sig
	s[k/64] = 1 << (k % 64)
	return s
}

// cellOf is a cell for each bit: any of those that have it.
func cellOf(t *testing.T) [api.SigBits]int {
	t.Helper()
	var cells [api.SigBits]int
	var found [api.SigBits]bool
	left := api.SigBits
	for cell := 0; left > 0; cell++ {
		if cell > 1<<20 {
			t.Fatalf("%d bits have no cell", left)
		}
		if k := shift.SigHash(cell); !found[k] {
			cells[k], found[k] = cell, true
			left--
		}
	}
	return cells
}

// someSigs are empty, full, with one bit, and with bits strewn about, few or many.
func someSigs() []api.Sig {
	sigs := []api.Sig{{}, full(), {0: 1}, {0: 1 << 63}, {7: 1}, {7: 1 << 63}, {3: 0x0123456789abcdef}, {4: 0xfedcba9876543210}}
	for k := range api.SigBits {
		sigs = append(sigs, oneBit(k))
	}
	strewn := uint64(1)
	next := func() uint64 {
		strewn = strewn*6364136223846793005 + 1442695040888963407
		return strewn ^ strewn>>29
	}
	for i := range 60 {
		var s api.Sig
		for j := range s {
			s[j] = next()
			for range i % 5 {
				s[j] &= next()
			}
		}
		sigs = append(sigs, s)
	}
	return sigs
}

// bitsOneByOne asks for each bit on its own.
func bitsOneByOne(s api.Sig) []int {
	var l []int
	for k := range api.SigBits {
		if s[k/64]>>(k%64)%2 == 1 {
			l = append(l, k)
		}
	}
	return l
}

// someCells are cells of a memory, and numbers that are none.
func someCells() []int {
	cells := []int{-1, -2, math.MinInt, math.MaxInt, 1 << 40}
	for cell := range api.MaxCells {
		cells = append(cells, cell)
	}
	return cells
}

// someLists are lists of cells: none, one, the same twice, many.
func someLists() [][]int {
	cells := someCells()
	return [][]int{nil, {}, {0}, {1}, {2, 2}, {0, 2, 2}, {5, 4, 3, 2, 1, 0}, {-1}, {math.MinInt, math.MaxInt}, cells[:40], cells[30:200], cells}
}

// P2.1
func TestOf(t *testing.T) {
	for _, c := range []struct {
		cells []int
		want  []int
	}{
		{nil, nil},
		{[]int{}, nil},
		{[]int{0}, []int{0}},
		{[]int{0, 2, 2}, []int{0, 117}},
		{[]int{2, 0}, []int{0, 117}},
		{[]int{0, 1, 2, 3, 4, 5}, []int{0, 22, 117, 143, 360, 428}},
	} {
		if l := bitsOneByOne(sig.Of(c.cells...)); !slices.Equal(l, c.want) {
			t.Errorf("the bits of Of(%v): %v, want %v", c.cells, l, c.want)
		}
	}
	for _, cells := range someLists() {
		var want api.Sig
		for _, cell := range cells {
			k := shift.SigHash(cell)
			want[k/64] |= 1 << (k % 64)
		}
		if s := sig.Of(cells...); s != want {
			t.Errorf("Of(%v) = %x, want %x", cells, s, want)
		}
	}
}

// P2.1
func TestWith(t *testing.T) {
	for _, s := range someSigs() {
		for _, cell := range []int{0, 1, 2, 1023, -1, math.MinInt, math.MaxInt} {
			before, want := s, s
			k := shift.SigHash(cell)
			want[k/64] |= 1 << (k % 64)
			if y := sig.With(s, cell); y != want {
				t.Errorf("With(%x, %d) = %x, want %x", s, cell, y, want)
			}
			if s != before {
				t.Fatal("With wrote into what was handed in")
			}
		}
	}
	cells := cellOf(t)
	for k, cell := range cells {
		if s := sig.With(api.Sig{}, cell); s != oneBit(k) {
			t.Errorf("With of the bit %d: %x", k, s)
		}
	}
}

// P2.1
func TestHas(t *testing.T) {
	cells := cellOf(t)
	for _, s := range someSigs() {
		has := map[int]int{}
		for _, k := range bitsOneByOne(s) {
			has[k] = 1
		}
		for k, cell := range cells {
			if y, want := sig.Has(s, cell), has[k] == 1; y != want {
				t.Fatalf("Has(%x, %d) = %t: its bit is %d", s, cell, y, k)
			}
		}
	}
	for _, cell := range someCells() {
		if sig.Has(api.Sig{}, cell) || !sig.Has(full(), cell) {
			t.Errorf("Has(empty or full, %d)", cell)
		}
	}
	// A cell that was never put in is had, if another has its bit.
	other := 1
	for shift.SigHash(other) != shift.SigHash(0) {
		other++
	}
	if !sig.Has(sig.Of(0), other) {
		t.Errorf("%d has the bit of 0, and Of(0) hasn't it", other)
	}
}

// P2.2
func TestUnionMeetMeets(t *testing.T) {
	sigs := someSigs()
	for i, a := range sigs {
		for j := 0; j < len(sigs); j += 1 + i%7 {
			b := sigs[j]
			var union, meet api.Sig
			for k := range api.SigWords {
				union[k], meet[k] = a[k]|b[k], a[k]&b[k]
			}
			if y := sig.Union(a, b); y != union {
				t.Fatalf("Union(%x, %x) = %x", a, b, y)
			}
			if y := sig.Meet(a, b); y != meet {
				t.Fatalf("Meet(%x, %x) = %x", a, b, y)
			}
			if y, want := sig.Meets(a, b), len(bitsOneByOne(meet)) > 0; y != want {
				t.Fatalf("Meets(%x, %x) = %t", a, b, y)
			}
		}
	}
}

// P2.2
func TestUnionMeetExamples(t *testing.T) {
	if y := sig.Union(sig.Of(0), sig.Of(2)); y != sig.Of(0, 2) {
		t.Errorf("Union: %x", y)
	}
	if y := sig.Meet(sig.Of(0, 2), sig.Of(2, 3)); y != sig.Of(2) {
		t.Errorf("Meet: %x", y)
	}
	if sig.Meets(sig.Of(0), sig.Of(2)) || !sig.Meets(sig.Of(0, 2), sig.Of(5, 2)) || sig.Meets(api.Sig{}, api.Sig{}) {
		t.Error("Meets")
	}
}

// P2.2
func TestEmpty(t *testing.T) {
	if !sig.Empty(api.Sig{}) || !sig.Empty(sig.Of()) || sig.Empty(full()) || sig.Empty(sig.Of(0)) {
		t.Error("Empty of none, of all, of one")
	}
	for k := range api.SigBits {
		if sig.Empty(oneBit(k)) {
			t.Errorf("Empty of the bit %d", k)
		}
	}
}

// P2.2
func TestBits(t *testing.T) {
	for _, s := range someSigs() {
		if l, want := sig.Bits(s), bitsOneByOne(s); !slices.Equal(l, want) {
			t.Errorf("Bits(%x) = %v, want %v", s, l, want)
		}
	}
	if l := sig.Bits(sig.Of(0, 2, 2)); !slices.Equal(l, []int{0, 117}) {
		t.Errorf("Bits of 0 2 2: %v", l)
	}
	// What is answered is new each time.
	l := sig.Bits(full())
	for i := range l[:cap(l)] {
		l[:cap(l)][i] = -1
	}
	if again := sig.Bits(full()); !slices.Equal(again, bitsOneByOne(full())) {
		t.Errorf("Bits of all: %v", again)
	}
}

// textByFmt lays the words down by the library.
func textByFmt(s api.Sig) string {
	var text strings.Builder
	for _, word := range s {
		fmt.Fprintf(&text, "%016x", word)
	}
	return text.String()
}

// P2.3
func TestText(t *testing.T) {
	noughts := strings.Repeat("0", 16)
	for _, c := range []struct {
		s    api.Sig
		want string
	}{
		{api.Sig{}, strings.Repeat("0", 128)},
		{full(), strings.Repeat("f", 128)},
		{sig.Of(0), "0000000000000001" + strings.Repeat("0", 112)},
		{sig.Of(2), noughts + "0020000000000000" + strings.Repeat("0", 96)},
		{api.Sig{0: 0x0123456789abcdef, 7: 0xfedcba9876543210}, "0123456789abcdef" + strings.Repeat(noughts, 6) + "fedcba9876543210"},
		{api.Sig{7: 1 << 63}, strings.Repeat("0", 112) + "8000000000000000"},
	} {
		if y := sig.Text(c.s); y != c.want {
			t.Errorf("Text(%x) = %s, want %s", c.s, y, c.want)
		}
	}
	for _, s := range someSigs() {
		if y, want := sig.Text(s), textByFmt(s); y != want {
			t.Errorf("Text(%x) = %s, want %s", s, y, want)
		}
	}
}

// P2.3
func TestParse(t *testing.T) {
	for _, s := range someSigs() {
		if y, e, at := sig.Parse(textByFmt(s)); y != s || e != api.OK || at != 0 {
			t.Errorf("Parse(%s) = %x, %d, %d", textByFmt(s), y, e, at)
		}
	}
}

// refused: s is refused at a place, and nothing else is told.
func refused(t *testing.T, s string, place int) {
	t.Helper()
	if y, e, at := sig.Parse(s); y != (api.Sig{}) || e != api.ErrText || at != place {
		t.Errorf("Parse(%q) = %x, %d, %d, want ErrText at %d", s, y, e, at, place)
	}
}

// P2.3
func TestParseRefusesOtherLengths(t *testing.T) {
	for _, digit := range []string{"0", "9", "a", "f"} {
		for n := range 128 {
			refused(t, strings.Repeat(digit, n), n)
		}
		for _, n := range []int{129, 130, 192, 256, 1000} {
			refused(t, strings.Repeat(digit, n), 128)
		}
	}
	refused(t, strings.Repeat("0", 128)+"\n", 128)
	refused(t, strings.Repeat("0", 128)+"g", 128)
}

// P2.3
func TestParseRefusesOtherBytes(t *testing.T) {
	good := strings.Repeat("0123456789abcdef", 8)
	for b := range 256 {
		if strings.IndexByte("0123456789abcdef", byte(b)) >= 0 {
			continue
		}
		for _, at := range []int{0, 1, 15, 16, 63, 64, 127} {
			bad := string([]byte{byte(b)})
			refused(t, good[:at]+bad+good[at+1:], at)
			refused(t, good[:at]+bad, at)
			refused(t, good[:at]+bad+good, at)
		}
	}
	// The first one that is wrong tells the place.
	refused(t, "A", 0)
	refused(t, "0gh", 1)
	refused(t, "0x"+good, 1)
	refused(t, good[:5]+"é"+good, 5)
}

// groupsByPairs holds each signature against all ahead of it.
func groupsByPairs(l []api.Sig) [][]int {
	var groups [][]int
next:
	for place, s := range l {
		for g, group := range groups {
			if l[group[0]] == s {
				groups[g] = append(group, place)
				continue next
			}
		}
		groups = append(groups, []int{place})
	}
	return groups
}

func sameLists(a, b [][]int) bool {
	return slices.EqualFunc(a, b, func(x, y []int) bool { return slices.Equal(x, y) })
}

// P2.4
func TestGroups(t *testing.T) {
	for _, c := range []struct {
		l    []api.Sig
		want [][]int
	}{
		{nil, nil},
		{[]api.Sig{}, nil},
		{[]api.Sig{{}}, [][]int{{0}}},
		{[]api.Sig{sig.Of(1), sig.Of(2), sig.Of(1), sig.Of()}, [][]int{{0, 2}, {1}, {3}}},
		{[]api.Sig{full(), full(), full()}, [][]int{{0, 1, 2}}},
		{[]api.Sig{{7: 1}, {6: 1}, {7: 2}, {6: 1}, {7: 1}}, [][]int{{0, 4}, {1, 3}, {2}}},
	} {
		if y := sig.Groups(c.l); !sameLists(y, c.want) {
			t.Errorf("Groups(%x) = %v, want %v", c.l, y, c.want)
		}
	}
	var many []api.Sig
	sigs := someSigs()
	for i := range 3000 {
		many = append(many, sigs[i*i%len(sigs)])
	}
	before := slices.Clone(many)
	if y := sig.Groups(many); !sameLists(y, groupsByPairs(many)) {
		t.Errorf("Groups of many: %v", y)
	}
	if !slices.Equal(many, before) {
		t.Error("Groups wrote into what was handed in")
	}
}

// P2.4: no two lists of an answer share memory, nor their spare room.
func TestGroupsAreApart(t *testing.T) {
	var l []api.Sig
	for i := range 60 {
		l = append(l, sig.Of(i%7))
	}
	want := groupsByPairs(l)
	groups := sig.Groups(l)
	for i := range groups {
		whole := groups[i][:cap(groups[i])]
		kept := slices.Clone(whole)
		for j := range whole {
			whole[j] = -1
		}
		for j := range groups {
			if j != i && !slices.Equal(groups[j], want[j]) {
				t.Fatalf("writing into the group %d changed the group %d", i, j)
			}
		}
		copy(whole, kept)
	}
	if again := sig.Groups(l); !sameLists(again, want) {
		t.Errorf("Groups: %v", again)
	}
}

// P2.5
func TestWhoWasPutInIsHad(t *testing.T) {
	for _, cells := range someLists() {
		s := sig.Of(cells...)
		for _, cell := range cells {
			if !sig.Has(s, cell) || !sig.Has(sig.With(api.Sig{}, cell), cell) {
				t.Errorf("%d was put in, and isn't had", cell)
			}
		}
		for _, others := range someLists() {
			common := slices.ContainsFunc(cells, func(cell int) bool { return slices.Contains(others, cell) })
			if common && !sig.Meets(s, sig.Of(others...)) {
				t.Errorf("%v and %v have a cell in common, and don't meet", cells, others)
			}
			if sig.Union(s, sig.Of(others...)) != sig.Of(slices.Concat(cells, others)...) {
				t.Errorf("the union of %v and %v isn't that of both lists", cells, others)
			}
		}
	}
}

// P2.5
func TestUnionMeetsWhatOneMeets(t *testing.T) {
	sigs := someSigs()
	for i, a := range sigs {
		b, c := sigs[(i*31+7)%len(sigs)], sigs[(i*53+11)%len(sigs)]
		if sig.Meets(sig.Union(a, b), c) != (sig.Meets(a, c) || sig.Meets(b, c)) {
			t.Errorf("the union of %x and %x: does it meet %x?", a, b, c)
		}
	}
}

// P2.5
func TestEmptyMeetsNothing(t *testing.T) {
	sigs := someSigs()
	for _, s := range sigs {
		meets := false
		for _, other := range sigs {
			meets = meets || sig.Meets(s, other)
		}
		if sig.Empty(s) == meets {
			t.Errorf("%x: empty %t, meets something %t", s, sig.Empty(s), meets)
		}
	}
}

// P2.5
func TestMadeAgain(t *testing.T) {
	cells := cellOf(t)
	for _, s := range someSigs() {
		var ofBits []int
		sum := new(big.Int)
		for _, k := range sig.Bits(s) {
			ofBits = append(ofBits, cells[k])
			sum.SetBit(sum, k, 1)
		}
		if y := sig.Of(ofBits...); y != s {
			t.Errorf("of its bits %x becomes %x", s, y)
		}
		if y, e, at := sig.Parse(sig.Text(s)); y != s || e != api.OK || at != 0 {
			t.Errorf("of its text %x becomes %x, %d, %d", s, y, e, at)
		}
		for i, word := range s {
			high := new(big.Int).Rsh(sum, uint(64*i))
			if high.And(high, new(big.Int).SetUint64(math.MaxUint64)).Uint64() != word {
				t.Errorf("the bits of %x don't make its word %d", s, i)
			}
		}
	}
}
