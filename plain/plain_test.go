package plain_test

import (
	"math"
	"math/big"
	"slices"
	"testing"

	"carousel/api"
	"carousel/plain"
)

// with is a configuration that may be, of so many plain cells and of regions.
func with(raw int, regions ...api.Region) api.Config {
	return api.Config{Raw: raw, Ring: 2, Writes: 8, Stamps: 9, Tries: 3, Regions: regions}
}

// kinds are all four.
func kinds() []int {
	return []int{api.KindCounter, api.KindQueue, api.KindDict, api.KindChain}
}

// oneOfEach are four regions of a capacity, one of each kind.
func oneOfEach(most int) []api.Region {
	var regions []api.Region
	for _, kind := range kinds() {
		regions = append(regions, api.Region{Kind: kind, Cap: most})
	}
	return regions
}

// edgeNumbers are the least, the greatest, and those that a smaller kind of number would take for another one.
func edgeNumbers() []int64 {
	return []int64{
		math.MinInt64, math.MinInt64 + 1, math.MinInt32, -1 << 32, -256, -17, -2, -1, 0, 1, 2, 15, 16, 17, 63, 64, 65, 255, 256,
		math.MaxInt32, 1 << 32, 1<<32 + 1, 1 << 62, math.MaxInt64 - 1, math.MaxInt64,
	}
}

// strewn gives numbers that are spread out, the same ones each time.
type strewn uint64

func (s *strewn) below(n int) int {
	*s = *s*6364136223846793005 + 1442695040888963407
	return int(uint64(*s>>33) % uint64(n))
}

// config is any one that may be, with small capacities mostly.
func (s *strewn) config() api.Config {
	c := with(1 + s.below(64))
	for range s.below(9) {
		most := s.below(5)
		if s.below(4) == 0 {
			most = s.below(17)
		}
		c.Regions = append(c.Regions, api.Region{Kind: 1 + s.below(4), Cap: most})
	}
	return c
}

// number is one of a few, so that keys meet, or any.
func (s *strewn) number() int64 {
	switch s.below(8) {
	case 0:
		edges := edgeNumbers()
		return edges[s.below(len(edges))]
	case 1:
		return int64(s.below(1<<31)) << 30
	}
	return int64(s.below(20)) - 3
}

// values is the shape of a kind that has no pairs.
func values(kind int, all ...int64) api.Shape {
	return api.Shape{Kind: kind, Values: all}
}

// pairs is the shape of a dict: keys and values by turns.
func pairs(all ...int64) api.Shape {
	shape := api.Shape{Kind: api.KindDict}
	for i := 0; i < len(all); i += 2 {
		shape.Pairs = append(shape.Pairs, api.Pair{Key: all[i], Value: all[i+1]})
	}
	return shape
}

// sameShape holds two against each other: a list without elements may be nil.
func sameShape(a, b api.Shape) bool {
	return a.Kind == b.Kind && slices.Equal(a.Values, b.Values) && slices.Equal(a.Pairs, b.Pairs)
}

// sameShapes holds as many of them.
func sameShapes(a, b []api.Shape) bool {
	return slices.EqualFunc(a, b, sameShape)
}

// made is a state of a configuration that may be.
func made(t *testing.T, c api.Config) *plain.State {
	t.Helper()
	s, why := plain.New(c)
	if s == nil || why != api.OK {
		t.Fatalf("New(%+v): %v, error %d", c, s, why)
	}
	return s
}

// rawIs: a state has these plain numbers.
func rawIs(t *testing.T, s *plain.State, want ...int64) {
	t.Helper()
	if got := s.Raw(); !slices.Equal(got, want) {
		t.Errorf("Raw: %v, not %v", got, want)
	}
}

// shapesAre: a state's regions hold this.
func shapesAre(t *testing.T, s *plain.State, want ...api.Shape) {
	t.Helper()
	if got := s.Shapes(); !sameShapes(got, want) {
		t.Errorf("Shapes: %+v, not %+v", got, want)
	}
}

// answers: a call has this answer and code.
func answers(t *testing.T, s *plain.State, answer int64, code, region, call int, args ...int64) {
	t.Helper()
	got, gotCode, why := s.Call(region, call, args...)
	if got != answer || gotCode != code || why != api.OK {
		t.Errorf("Call(%d, %d, %v): %d, code %d, error %d, not %d, code %d", region, call, args, got, gotCode, why, answer, code)
	}
}

// emptyShapes are what regions hold at first.
func emptyShapes(regions []api.Region) []api.Shape {
	var shapes []api.Shape
	for _, r := range regions {
		shape := api.Shape{Kind: r.Kind}
		if r.Kind == api.KindCounter {
			shape.Values = make([]int64, r.Cap)
		}
		shapes = append(shapes, shape)
	}
	return shapes
}

// P20.1 to P20.5: the chapter's examples.
func TestExamples(t *testing.T) {
	s := made(t, with(2, api.Region{Kind: api.KindQueue, Cap: 1}, api.Region{Kind: api.KindDict, Cap: 1}, api.Region{Kind: api.KindChain, Cap: 2}))
	s.Store(-1, 7)
	rawIs(t, s, 0, 7)
	answers(t, s, 0, api.CodeOK, 0, api.CallPut, 5)
	answers(t, s, 0, api.CodeFull, 0, api.CallPut, 5)
	answers(t, s, 0, api.CodeOK, 1, api.CallPut, 4, 9)
	answers(t, s, 0, api.CodeOK, 1, api.CallPut, 4, 8)
	answers(t, s, 0, api.CodeFull, 1, api.CallPut, 3, 1)
	answers(t, s, 8, api.CodeOK, 1, api.CallGet, 4)
	answers(t, s, 0, api.CodeOK, 2, api.CallAdd, 6)
	answers(t, s, 0, api.CodeOK, 2, api.CallAdd, 2)
	answers(t, s, 6, api.CodeOK, 2, api.CallNext, 2)
	answers(t, s, 0, api.CodeThere, 2, api.CallAdd, 2)
	noCall(t, s, 3, api.CallLen)
	noCall(t, s, 0, api.CallDel, 5)
	noCall(t, s, 0, api.CallPut)
	shapesAre(t, s, values(api.KindQueue, 5), pairs(4, 8), values(api.KindChain, 2, 6))
}

// P20.1, P20.4: a new state of every number of plain cells, and of every kind and capacity.
func TestNew(t *testing.T) {
	for raw := 1; raw <= 64; raw++ {
		s := made(t, with(raw))
		rawIs(t, s, make([]int64, raw)...)
		shapesAre(t, s)
		s = made(t, with(raw, oneOfEach(raw%17)...))
		rawIs(t, s, make([]int64, raw)...)
		shapesAre(t, s, emptyShapes(oneOfEach(raw%17))...)
	}
	for _, kind := range kinds() {
		for most := 0; most <= 16; most++ {
			r := api.Region{Kind: kind, Cap: most}
			shapesAre(t, made(t, with(1, r)), emptyShapes([]api.Region{r})...)
			eight := slices.Repeat([]api.Region{r}, 8)
			shapesAre(t, made(t, with(64, eight...)), emptyShapes(eight)...)
		}
	}
	c := api.Config{Raw: 3, Ring: 16, Writes: 24, Stamps: 1 << 40, Multi: true, Tries: 255, Regions: oneOfEach(2)}
	shapesAre(t, made(t, c), emptyShapes(c.Regions)...)
	c.Regions = []api.Region{}
	shapesAre(t, made(t, c))
}

// P20.1: what is empty holds nothing, and its numbers are 0, by its calls as well.
func TestNewByCalls(t *testing.T) {
	for most := 0; most <= 16; most++ {
		s := made(t, with(2, oneOfEach(most)...))
		for i := range int64(most) {
			answers(t, s, 0, api.CodeOK, 0, api.CallGet, i)
		}
		answers(t, s, 0, api.CodeNone, 0, api.CallGet, int64(most))
		for region := 1; region <= 3; region++ {
			answers(t, s, 0, api.CodeOK, region, api.CallLen)
		}
		answers(t, s, 0, api.CodeNone, 1, api.CallGet)
		answers(t, s, 0, api.CodeNone, 3, api.CallLeast)
		for _, k := range edgeNumbers() {
			answers(t, s, 0, api.CodeNone, 2, api.CallGet, k)
			answers(t, s, 0, api.CodeNone, 2, api.CallDel, k)
			answers(t, s, 0, api.CodeOK, 3, api.CallHas, k)
			answers(t, s, 0, api.CodeNone, 3, api.CallNext, k)
			answers(t, s, 0, api.CodeNone, 3, api.CallDel, k)
			if got := s.Load(k); got != 0 {
				t.Errorf("Load(%d): %d", k, got)
			}
		}
	}
}

// indexOf is which of so many plain numbers a place means, by whole numbers of any size.
func indexOf(place int64, raw int) int {
	word := new(big.Int).SetUint64(uint64(place))
	return int(word.Mod(word, big.NewInt(int64(raw))).Int64())
}

// P20.2: places below 0, at Raw and above, by hand.
func TestPlaces(t *testing.T) {
	for _, x := range []struct {
		raw   int
		place int64
		index int
	}{
		{1, 0, 0}, {1, -1, 0}, {1, math.MinInt64, 0}, {1, math.MaxInt64, 0},
		{2, -1, 1}, {2, -2, 0}, {2, 2, 0}, {2, 3, 1}, {2, math.MinInt64, 0}, {2, math.MaxInt64, 1},
		{3, -1, 0}, {3, -2, 2}, {3, -3, 1}, {3, 3, 0}, {3, math.MinInt64, 2}, {3, math.MaxInt64, 1},
		{10, -1, 5}, {10, -6, 0}, {10, -7, 9}, {10, 10, 0}, {10, 19, 9}, {10, math.MinInt64, 8}, {10, math.MaxInt64, 7},
		{64, -1, 63}, {64, -64, 0}, {64, 63, 63}, {64, 64, 0}, {64, 65, 1}, {64, math.MinInt64, 0}, {64, math.MaxInt64, 63},
	} {
		s := made(t, with(x.raw))
		want := make([]int64, x.raw)
		s.Store(x.place, 7)
		want[x.index] = 7
		rawIs(t, s, want...)
		if got := s.Load(x.place); got != 7 {
			t.Errorf("Raw %d, Load(%d): %d", x.raw, x.place, got)
		}
		s.Store(int64(x.index), -8)
		if got := s.Load(x.place); got != -8 {
			t.Errorf("Raw %d, Load(%d) behind a store to %d: %d", x.raw, x.place, x.index, got)
		}
	}
}

// P20.2: every number of plain cells, each of them and all edges as places and as values; a store changes one number alone.
func TestLoadStore(t *testing.T) {
	for raw := 1; raw <= 64; raw++ {
		s := made(t, with(raw, oneOfEach(3)...))
		want := make([]int64, raw)
		places := edgeNumbers()
		for i := -2 * raw; i <= 2*raw; i++ {
			places = append(places, int64(i), math.MaxInt64-int64(2*raw+i))
		}
		for n, place := range places {
			v := edgeNumbers()[n%len(edgeNumbers())]
			i := indexOf(place, raw)
			if got := s.Load(place); got != want[i] {
				t.Errorf("Raw %d, Load(%d): %d, not %d", raw, place, got, want[i])
			}
			s.Store(place, v)
			want[i] = v
			if got := s.Load(place); got != v {
				t.Errorf("Raw %d, Load(%d) behind a store: %d, not %d", raw, place, got, v)
			}
			rawIs(t, s, want...)
		}
		shapesAre(t, s, emptyShapes(oneOfEach(3))...)
	}
}

// filled is a state with something of everything, one of each kind, of the capacity 3.
func filled(t *testing.T) *plain.State {
	t.Helper()
	s := made(t, with(3, oneOfEach(3)...))
	s.Store(1, 11)
	s.Store(2, -12)
	answers(t, s, 5, api.CodeOK, 0, api.CallAdd, 1, 5)
	answers(t, s, 0, api.CodeOK, 1, api.CallPut, 21)
	answers(t, s, 0, api.CodeOK, 1, api.CallPut, 22)
	answers(t, s, 0, api.CodeOK, 2, api.CallPut, 32, 320)
	answers(t, s, 0, api.CodeOK, 2, api.CallPut, 31, 310)
	answers(t, s, 0, api.CodeOK, 3, api.CallAdd, 42)
	answers(t, s, 0, api.CodeOK, 3, api.CallAdd, 41)
	return s
}

// isFilled: such a state is still what it was.
func isFilled(t *testing.T, s *plain.State) {
	t.Helper()
	rawIs(t, s, 0, 11, -12)
	shapesAre(t, s, values(api.KindCounter, 0, 5, 0), values(api.KindQueue, 21, 22), pairs(31, 310, 32, 320), values(api.KindChain, 41, 42))
}

// change makes another state out of a filled one, by every call that changes something.
func change(t *testing.T, s *plain.State) {
	t.Helper()
	s.Store(0, 1)
	s.Store(1, 2)
	answers(t, s, 6, api.CodeOK, 0, api.CallAdd, 1, 1)
	answers(t, s, 7, api.CodeOK, 0, api.CallAdd, 2, 7)
	answers(t, s, 21, api.CodeOK, 1, api.CallGet)
	answers(t, s, 0, api.CodeOK, 1, api.CallPut, 23)
	answers(t, s, 0, api.CodeOK, 1, api.CallPut, 24)
	answers(t, s, 0, api.CodeOK, 2, api.CallPut, 32, 321)
	answers(t, s, 0, api.CodeOK, 2, api.CallDel, 31)
	answers(t, s, 0, api.CodeOK, 2, api.CallPut, 30, 300)
	answers(t, s, 0, api.CodeOK, 2, api.CallPut, 33, 330)
	answers(t, s, 0, api.CodeOK, 3, api.CallDel, 41)
	answers(t, s, 0, api.CodeOK, 3, api.CallAdd, 40)
	answers(t, s, 0, api.CodeOK, 3, api.CallAdd, 43)
}

// isChanged: a filled state was changed.
func isChanged(t *testing.T, s *plain.State) {
	t.Helper()
	rawIs(t, s, 1, 2, -12)
	shapesAre(t, s, values(api.KindCounter, 0, 6, 7), values(api.KindQueue, 22, 23, 24), pairs(30, 300, 32, 321, 33, 330), values(api.KindChain, 40, 42, 43))
}

// spoil writes over a list and its spare room.
func spoil[E any](list []E, with E) {
	for i := range list[:cap(list)] {
		list[:cap(list)][i] = with
	}
}

// spoilAnswers writes over all that a state tells.
func spoilAnswers(s *plain.State) {
	spoil(s.Raw(), -99)
	shapes := s.Shapes()
	for _, shape := range shapes {
		spoil(shape.Values, -99)
		spoil(shape.Pairs, api.Pair{Key: -99, Value: -99})
	}
	spoil(shapes, api.Shape{Kind: -99})
}

// P20.4, R3: what Raw and Shapes answered is its owner's: it may be written over, with its spare room, and does not change by later calls.
func TestAnswersAreTheirOwners(t *testing.T) {
	s := filled(t)
	spoilAnswers(s)
	isFilled(t, s)
	raw, shapes := s.Raw(), s.Shapes()
	change(t, s)
	if !slices.Equal(raw, []int64{0, 11, -12}) {
		t.Errorf("what Raw answered became %v", raw)
	}
	if !sameShapes(shapes, filled(t).Shapes()) {
		t.Errorf("what Shapes answered became %+v", shapes)
	}
	spoil(raw, -99)
	spoilAnswers(s)
	isChanged(t, s)
}

// R3: lists of one answer share nothing with each other, nor with those of another answer, spare room among it.
func TestAnswersShareNothing(t *testing.T) {
	s := made(t, with(3, append(oneOfEach(3), oneOfEach(3)...)...))
	for region := range 8 {
		for i := range int64(2) {
			switch region % 4 {
			case 0:
				answers(t, s, i, api.CodeOK, region, api.CallAdd, i, i)
			case 1:
				answers(t, s, 0, api.CodeOK, region, api.CallPut, i)
			case 2:
				answers(t, s, 0, api.CodeOK, region, api.CallPut, i, i)
			case 3:
				answers(t, s, 0, api.CodeOK, region, api.CallAdd, i)
			}
		}
	}
	want := s.Shapes()
	for region := range 8 {
		one, two := s.Shapes(), s.Shapes()
		_ = append(append(one[region].Values, -1), -2)
		spoil(one[region].Values, -99)
		spoil(one[region].Pairs, api.Pair{Key: -99})
		for other := range 8 {
			if other != region && !sameShape(one[other], want[other]) {
				t.Errorf("the region %d was spoilt, and the region %d with it: %+v", region, other, one[other])
			}
		}
		if !sameShapes(two, want) {
			t.Errorf("another answer was spoilt: %+v", two)
		}
	}
	shapesAre(t, s, want...)
}

// P20.4: a copy has the same, and goes on apart: whichever of both changes, the other one does not.
func TestCopy(t *testing.T) {
	s := filled(t)
	other := s.Copy()
	isFilled(t, other)
	change(t, s)
	isChanged(t, s)
	isFilled(t, other)
	spoilAnswers(other)
	change(t, other)
	isChanged(t, other)
	isChanged(t, s)

	s = filled(t)
	other = s.Copy()
	change(t, other)
	isChanged(t, other)
	isFilled(t, s)
	change(t, s)
	isChanged(t, s)
}

// P20.4: copies of copies, and of one state several.
func TestCopies(t *testing.T) {
	s := filled(t)
	one, two := s.Copy(), s.Copy()
	three := one.Copy()
	change(t, one)
	isFilled(t, s)
	isFilled(t, two)
	isFilled(t, three)
	four := one.Copy()
	isChanged(t, four)
	change(t, three)
	isFilled(t, s)
	isFilled(t, two)
	isChanged(t, one)
	answers(t, one, 22, api.CodeOK, 1, api.CallGet)
	one.Store(0, 5)
	isChanged(t, three)
	isChanged(t, four)
}

// P20.4: a copy has the same capacities, and knows the same calls.
func TestCopyKeepsCapacities(t *testing.T) {
	for most := 0; most <= 16; most++ {
		s := made(t, with(3, oneOfEach(most)...)).Copy()
		shapesAre(t, s, emptyShapes(oneOfEach(most))...)
		for i := range int64(most) {
			s = s.Copy()
			answers(t, s, 0, api.CodeOK, 1, api.CallPut, i)
			answers(t, s, 0, api.CodeOK, 2, api.CallPut, i, i)
			answers(t, s, 0, api.CodeOK, 3, api.CallAdd, i)
			answers(t, s, 1, api.CodeOK, 0, api.CallAdd, i, 1)
		}
		s = s.Copy()
		answers(t, s, 0, api.CodeFull, 1, api.CallPut, -1)
		answers(t, s, 0, api.CodeFull, 2, api.CallPut, -1, 1)
		answers(t, s, 0, api.CodeFull, 3, api.CallAdd, -1)
		answers(t, s, 0, api.CodeNone, 0, api.CallAdd, int64(most), 1)
		noCall(t, s, 4, api.CallLen)
	}
	s := made(t, with(64)).Copy()
	rawIs(t, s, make([]int64, 64)...)
	shapesAre(t, s)
}

// P20.4: copies that were made while lists had spare room, growing and shrinking on both sides.
func TestCopiesGoOnApart(t *testing.T) {
	seed := strewn(1)
	for range 300 {
		c := seed.config()
		s, m := made(t, c), newModel(c)
		for range 8 {
			for range seed.below(30) {
				holds(t, &seed, s, m)
			}
			other, otherModel := s.Copy(), m.copied()
			for range 10 {
				holds(t, &seed, s, m)
				holds(t, &seed, other, otherModel)
			}
			isModel(t, s, m)
			isModel(t, other, otherModel)
			if seed.below(2) == 0 {
				s, m = other, otherModel
			}
		}
	}
}

// R3: the configuration isn't kept: one that is written over, with its spare room, changes nothing.
func TestConfigurationIsNotKept(t *testing.T) {
	room := append(oneOfEach(3), api.Region{Kind: api.KindDict, Cap: 16})
	c := with(3, room[:4]...)
	before := slices.Clone(room)
	s := made(t, c)
	if !slices.Equal(room, before) {
		t.Errorf("New wrote into the regions: %+v", room)
	}
	spoil(room, api.Region{Kind: api.KindQueue, Cap: 1})
	c.Raw = 64
	shapesAre(t, s, emptyShapes(oneOfEach(3))...)
	rawIs(t, s, 0, 0, 0)
	for i := range int64(3) {
		answers(t, s, 0, api.CodeOK, 2, api.CallPut, i, i)
	}
	answers(t, s, 0, api.CodeFull, 2, api.CallPut, 3, 3)
	noCall(t, s, 4, api.CallLen)
}

// R3: the arguments of a call aren't written into, nor kept.
func TestArgumentsAreNotKept(t *testing.T) {
	s := made(t, with(1, oneOfEach(3)...))
	room := make([]int64, 4)
	for _, x := range []struct {
		region, call, count int
	}{
		{0, api.CallAdd, 2}, {1, api.CallPut, 1}, {2, api.CallPut, 2}, {3, api.CallAdd, 1},
		{0, api.CallGet, 1}, {2, api.CallGet, 1}, {3, api.CallHas, 1}, {3, api.CallNext, 1}, {0, api.CallDel, 1}, {2, api.CallPut, 3},
	} {
		for n := range int64(2) {
			copy(room, []int64{1 + n, 7 + n, 8, 9})
			s.Call(x.region, x.call, room[:x.count]...)
			if !slices.Equal(room, []int64{1 + n, 7 + n, 8, 9}) {
				t.Errorf("Call(%d, %d) made its arguments %v", x.region, x.call, room)
			}
			spoil(room, -99)
		}
	}
	shapesAre(t, s, values(api.KindCounter, 0, 7, 8), values(api.KindQueue, 1, 2), pairs(1, 7, 2, 8), values(api.KindChain, 1, 2))
}

// R4: states of one configuration know nothing of one another.
func TestStatesApart(t *testing.T) {
	c := with(3, oneOfEach(3)...)
	idle := made(t, c)
	one := filled(t)
	two := filled(t)
	change(t, one)
	isFilled(t, two)
	isChanged(t, one)
	rawIs(t, idle, 0, 0, 0)
	shapesAre(t, idle, emptyShapes(c.Regions)...)
	shapesAre(t, made(t, c), emptyShapes(c.Regions)...)
}

// P20.4: telling and copying change nothing.
func TestTellingChangesNothing(t *testing.T) {
	s := filled(t)
	for range 3 {
		s.Raw()
		s.Shapes()
		s.Copy()
		s.Load(1)
		isFilled(t, s)
	}
}

// R1: a nil state answers nothing, and nothing changes.
func TestNilState(t *testing.T) {
	refusedOne, _ := plain.New(api.Config{})
	refusedOf, _ := plain.Of(api.Config{}, nil)
	var s *plain.State
	for _, s := range []*plain.State{s, refusedOne, refusedOf, s.Copy()} {
		if s != nil {
			t.Fatalf("it isn't nil: %+v", s)
		}
		for _, place := range edgeNumbers() {
			s.Store(place, 7)
			if got := s.Load(place); got != 0 {
				t.Errorf("Load(%d): %d", place, got)
			}
		}
		for _, k := range knownCalls() {
			for region := -1; region <= 8; region++ {
				noCall(t, s, region, k.call, make([]int64, k.args)...)
			}
		}
		noCall(t, s, 0, 0)
		if s.Raw() != nil || s.Shapes() != nil || s.Copy() != nil {
			t.Errorf("a nil state: %v, %v, %v", s.Raw(), s.Shapes(), s.Copy())
		}
	}
}
