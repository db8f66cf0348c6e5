package plain_test

import (
	"maps"
	"math"
	"slices"
	"testing"

	"carousel/api"
	"carousel/plain"
)

// knownCall is a call that a kind has, with so many arguments.
type knownCall struct {
	kind, call, args int
}

// knownCalls are all of chapters 15 to 18.
func knownCalls() []knownCall {
	return []knownCall{
		{api.KindCounter, api.CallAdd, 2}, {api.KindCounter, api.CallGet, 1},
		{api.KindQueue, api.CallPut, 1}, {api.KindQueue, api.CallGet, 0}, {api.KindQueue, api.CallLen, 0},
		{api.KindDict, api.CallGet, 1}, {api.KindDict, api.CallPut, 2}, {api.KindDict, api.CallDel, 1}, {api.KindDict, api.CallLen, 0},
		{api.KindChain, api.CallAdd, 1}, {api.KindChain, api.CallDel, 1}, {api.KindChain, api.CallHas, 1},
		{api.KindChain, api.CallLeast, 0}, {api.KindChain, api.CallNext, 1}, {api.KindChain, api.CallLen, 0},
	}
}

// callsOf are those of a kind.
func callsOf(kind int) []knownCall {
	return slices.DeleteFunc(knownCalls(), func(k knownCall) bool { return k.kind != kind })
}

// model is a state by the words of the chapter, by other means: maps for dicts and chains.
type model struct {
	raw     []int64
	regions []modelRegion
}

type modelRegion struct {
	api.Region
	row    []int64         // of a counter, or of a queue
	values map[int64]int64 // of a dict, or (all 0) of a chain
}

// newModel is that of a new state.
func newModel(c api.Config) *model {
	m := &model{raw: make([]int64, c.Raw)}
	for _, r := range c.Regions {
		region := modelRegion{Region: r, values: map[int64]int64{}}
		if r.Kind == api.KindCounter {
			region.row = make([]int64, r.Cap)
		}
		m.regions = append(m.regions, region)
	}
	return m
}

func (m *model) copied() *model {
	other := &model{raw: slices.Clone(m.raw), regions: slices.Clone(m.regions)}
	for i, r := range m.regions {
		other.regions[i].row, other.regions[i].values = slices.Clone(r.row), maps.Clone(r.values)
	}
	return other
}

// shapes are what the regions hold.
func (m *model) shapes() []api.Shape {
	var shapes []api.Shape
	for _, r := range m.regions {
		shape := api.Shape{Kind: r.Kind, Values: slices.Clone(r.row)}
		for _, k := range slices.Sorted(maps.Keys(r.values)) {
			if r.Kind == api.KindDict {
				shape.Pairs = append(shape.Pairs, api.Pair{Key: k, Value: r.values[k]})
			} else {
				shape.Values = append(shape.Values, k)
			}
		}
		shapes = append(shapes, shape)
	}
	return shapes
}

// call is what a call that the region's kind has answers.
func (r *modelRegion) call(call int, args []int64) (int64, int) {
	switch r.Kind {
	case api.KindCounter:
		return r.callCounter(call, args)
	case api.KindQueue:
		return r.callQueue(call, args)
	case api.KindDict:
		return r.callDict(call, args)
	}
	return r.callChain(call, args)
}

func (r *modelRegion) callCounter(call int, args []int64) (int64, int) {
	for i := range r.row {
		if int64(i) == args[0] {
			if call == api.CallAdd {
				r.row[i] += args[1]
			}
			return r.row[i], api.CodeOK
		}
	}
	return 0, api.CodeNone
}

func (r *modelRegion) callQueue(call int, args []int64) (int64, int) {
	switch {
	case call == api.CallLen:
		return int64(len(r.row)), api.CodeOK
	case call == api.CallPut && len(r.row) >= r.Cap:
		return 0, api.CodeFull
	case call == api.CallPut:
		r.row = append(slices.Clone(r.row), args[0])
		return 0, api.CodeOK
	case len(r.row) == 0:
		return 0, api.CodeNone
	}
	first := r.row[0]
	r.row = slices.Clone(r.row[1:])
	return first, api.CodeOK
}

func (r *modelRegion) callDict(call int, args []int64) (int64, int) {
	if call == api.CallLen {
		return int64(len(r.values)), api.CodeOK
	}
	v, there := r.values[args[0]]
	switch {
	case call == api.CallPut && !there && len(r.values) >= r.Cap:
		return 0, api.CodeFull
	case call == api.CallPut:
		r.values[args[0]] = args[1]
		return 0, api.CodeOK
	case !there:
		return 0, api.CodeNone
	case call == api.CallDel:
		delete(r.values, args[0])
		return 0, api.CodeOK
	}
	return v, api.CodeOK
}

func (r *modelRegion) callChain(call int, args []int64) (int64, int) {
	switch call {
	case api.CallLen:
		return int64(len(r.values)), api.CodeOK
	case api.CallLeast:
		return r.least(func(int64) bool { return true })
	case api.CallNext:
		return r.least(func(k int64) bool { return k > args[0] })
	}
	_, there := r.values[args[0]]
	switch {
	case call == api.CallHas && there:
		return 1, api.CodeOK
	case call == api.CallHas:
		return 0, api.CodeOK
	case call == api.CallAdd && there:
		return 0, api.CodeThere
	case call == api.CallAdd && len(r.values) >= r.Cap:
		return 0, api.CodeFull
	case call == api.CallAdd:
		r.values[args[0]] = 0
		return 0, api.CodeOK
	case !there:
		return 0, api.CodeNone
	}
	delete(r.values, args[0])
	return 0, api.CodeOK
}

// least is the least key of those that may be.
func (r *modelRegion) least(may func(k int64) bool) (int64, int) {
	for _, k := range slices.Sorted(maps.Keys(r.values)) {
		if may(k) {
			return k, api.CodeOK
		}
	}
	return 0, api.CodeNone
}

// isModel: a state has what its model has.
func isModel(t *testing.T, s *plain.State, m *model) {
	t.Helper()
	rawIs(t, s, m.raw...)
	shapesAre(t, s, m.shapes()...)
}

// holds does any one thing to a state and to its model, which must answer the same.
func holds(t *testing.T, seed *strewn, s *plain.State, m *model) {
	t.Helper()
	if len(m.regions) == 0 || seed.below(8) == 0 {
		place, v := seed.number(), seed.number()
		s.Store(place, v)
		m.raw[indexOf(place, len(m.raw))] = v
		if got := s.Load(place); got != v {
			t.Errorf("Load(%d): %d, not %d", place, got, v)
		}
		return
	}
	region := seed.below(len(m.regions))
	k, args := seed.call(m.regions[region].Kind)
	answer, code := m.regions[region].call(k.call, args)
	answers(t, s, answer, code, region, k.call, args...)
}

// call is any one of a kind, with any arguments.
func (s *strewn) call(kind int) (knownCall, []int64) {
	known := callsOf(kind)
	k := known[s.below(len(known))]
	args := make([]int64, k.args)
	for i := range args {
		args[i] = s.number()
	}
	return k, args
}

// P20.3: a counter: its first number, its last, one behind it, one below 0, and what is far off.
func TestCounter(t *testing.T) {
	for most := 0; most <= 16; most++ {
		s := made(t, with(2, api.Region{Kind: api.KindCounter, Cap: most}))
		want := make([]int64, most)
		for i := range most {
			answers(t, s, 10+int64(i), api.CodeOK, 0, api.CallAdd, int64(i), 10+int64(i))
			answers(t, s, 9, api.CodeOK, 0, api.CallAdd, int64(i), -1-int64(i))
			answers(t, s, 9, api.CodeOK, 0, api.CallGet, int64(i))
			want[i] = 9
			shapesAre(t, s, values(api.KindCounter, want...))
		}
		for _, i := range append(edgeNumbers(), int64(most), int64(most)+1, int64(most)+256, int64(most)+1<<32, -int64(most)) {
			if i >= 0 && i < int64(most) {
				continue
			}
			answers(t, s, 0, api.CodeNone, 0, api.CallGet, i)
			answers(t, s, 0, api.CodeNone, 0, api.CallAdd, i, 5)
		}
		shapesAre(t, s, values(api.KindCounter, want...))
		rawIs(t, s, 0, 0)
	}
}

// P20.3: a counter's number goes round at both ends, and takes each edge.
func TestCounterGoesRound(t *testing.T) {
	s := made(t, with(1, api.Region{Kind: api.KindCounter, Cap: 2}))
	answers(t, s, math.MaxInt64, api.CodeOK, 0, api.CallAdd, 1, math.MaxInt64)
	answers(t, s, math.MinInt64, api.CodeOK, 0, api.CallAdd, 1, 1)
	answers(t, s, math.MinInt64, api.CodeOK, 0, api.CallGet, 1)
	answers(t, s, math.MaxInt64, api.CodeOK, 0, api.CallAdd, 1, -1)
	answers(t, s, -2, api.CodeOK, 0, api.CallAdd, 1, math.MaxInt64)
	shapesAre(t, s, values(api.KindCounter, 0, -2))
	for _, a := range edgeNumbers() {
		for _, b := range edgeNumbers() {
			s := made(t, with(1, api.Region{Kind: api.KindCounter, Cap: 1}))
			answers(t, s, a, api.CodeOK, 0, api.CallAdd, 0, a)
			answers(t, s, a+b, api.CodeOK, 0, api.CallAdd, 0, b)
			answers(t, s, a+b, api.CodeOK, 0, api.CallGet, 0)
		}
	}
}

// P20.3: queues of every capacity: empty, with one, one less than full, full, and empty again, several times over.
func TestQueue(t *testing.T) {
	for most := 0; most <= 16; most++ {
		s := made(t, with(1, api.Region{Kind: api.KindQueue, Cap: most}))
		for round := range int64(4) {
			answers(t, s, 0, api.CodeNone, 0, api.CallGet)
			answers(t, s, 0, api.CodeOK, 0, api.CallLen)
			var want []int64
			for i := range int64(most) {
				answers(t, s, 0, api.CodeOK, 0, api.CallPut, 100*round-i)
				want = append(want, 100*round-i)
				answers(t, s, i+1, api.CodeOK, 0, api.CallLen)
				shapesAre(t, s, values(api.KindQueue, want...))
			}
			answers(t, s, 0, api.CodeFull, 0, api.CallPut, 5)
			answers(t, s, 0, api.CodeFull, 0, api.CallPut, 0)
			answers(t, s, int64(most), api.CodeOK, 0, api.CallLen)
			shapesAre(t, s, values(api.KindQueue, want...))
			for i := range int64(most) {
				answers(t, s, want[0], api.CodeOK, 0, api.CallGet)
				want = want[1:]
				answers(t, s, int64(most)-i-1, api.CodeOK, 0, api.CallLen)
				shapesAre(t, s, values(api.KindQueue, want...))
			}
			answers(t, s, 0, api.CodeNone, 0, api.CallGet)
		}
	}
}

// P20.3: queues that go round for long, with one place free and with none; values may be any, and the same several times.
func TestQueueGoesRound(t *testing.T) {
	for most := 1; most <= 16; most++ {
		for length := 1; length <= most; length++ {
			s := made(t, with(1, api.Region{Kind: api.KindQueue, Cap: most}))
			all := slices.Repeat(edgeNumbers(), 3)
			for i, v := range all {
				if i >= length {
					answers(t, s, all[i-length], api.CodeOK, 0, api.CallGet)
				}
				answers(t, s, 0, api.CodeOK, 0, api.CallPut, v)
				shapesAre(t, s, values(api.KindQueue, all[max(0, i-length+1):i+1]...))
			}
		}
	}
}

// P20.3: dicts of every capacity: keys in any order, there, once there and never there; full and one less.
func TestDict(t *testing.T) {
	for most := 0; most <= 16; most++ {
		s := made(t, with(1, api.Region{Kind: api.KindDict, Cap: most}))
		m := newModel(with(1, api.Region{Kind: api.KindDict, Cap: most}))
		for i := range int64(most) {
			// Neither rising nor falling.
			k := (i*7 + 3) % 17
			answers(t, s, 0, api.CodeNone, 0, api.CallGet, k)
			answers(t, s, 0, api.CodeNone, 0, api.CallDel, k)
			answers(t, s, 0, api.CodeOK, 0, api.CallPut, k, -k)
			answers(t, s, -k, api.CodeOK, 0, api.CallGet, k)
			answers(t, s, 0, api.CodeOK, 0, api.CallPut, k, 2*k)
			answers(t, s, 2*k, api.CodeOK, 0, api.CallGet, k)
			answers(t, s, i+1, api.CodeOK, 0, api.CallLen)
			m.regions[0].values[k] = 2 * k
			isModel(t, s, m)
		}
		answers(t, s, 0, api.CodeFull, 0, api.CallPut, 17, 1)
		answers(t, s, 0, api.CodeFull, 0, api.CallPut, -1, 1)
		isModel(t, s, m)
		for i := range int64(most) {
			k := (i*5 + 3) % 17
			_, there := m.regions[0].values[k]
			if !there {
				answers(t, s, 0, api.CodeNone, 0, api.CallDel, k)
				continue
			}
			// Even a full one gives a key that is there another value.
			answers(t, s, 0, api.CodeOK, 0, api.CallPut, k, 5)
			answers(t, s, 0, api.CodeOK, 0, api.CallDel, k)
			answers(t, s, 0, api.CodeNone, 0, api.CallDel, k)
			answers(t, s, 0, api.CodeNone, 0, api.CallGet, k)
			delete(m.regions[0].values, k)
			isModel(t, s, m)
			answers(t, s, 0, api.CodeOK, 0, api.CallPut, 20+k, 1)
			answers(t, s, 0, api.CodeOK, 0, api.CallDel, 20+k)
		}
	}
}

// P20.3: keys and values of a dict at the edges; keys rise as numbers with their sign.
func TestDictEdges(t *testing.T) {
	s := made(t, with(1, api.Region{Kind: api.KindDict, Cap: 4}))
	answers(t, s, 0, api.CodeOK, 0, api.CallPut, math.MaxInt64, 1)
	answers(t, s, 0, api.CodeOK, 0, api.CallPut, 0, math.MinInt64)
	answers(t, s, 0, api.CodeOK, 0, api.CallPut, math.MinInt64, math.MaxInt64)
	answers(t, s, 0, api.CodeOK, 0, api.CallPut, -1, 0)
	shapesAre(t, s, pairs(math.MinInt64, math.MaxInt64, -1, 0, 0, math.MinInt64, math.MaxInt64, 1))
	answers(t, s, math.MaxInt64, api.CodeOK, 0, api.CallGet, math.MinInt64)
	answers(t, s, 0, api.CodeOK, 0, api.CallGet, -1)
	answers(t, s, math.MinInt64, api.CodeOK, 0, api.CallGet, 0)
	answers(t, s, 1, api.CodeOK, 0, api.CallGet, math.MaxInt64)
	answers(t, s, 0, api.CodeNone, 0, api.CallGet, math.MaxInt64-1)
	answers(t, s, 0, api.CodeNone, 0, api.CallGet, math.MinInt64+1)
	answers(t, s, 0, api.CodeOK, 0, api.CallDel, math.MinInt64)
	answers(t, s, 0, api.CodeOK, 0, api.CallDel, math.MaxInt64)
	shapesAre(t, s, pairs(-1, 0, 0, math.MinInt64))
	answers(t, s, 2, api.CodeOK, 0, api.CallLen)
}

// P20.3: chains of every capacity: keys in any order, there, once there and never there; full and one less.
func TestChain(t *testing.T) {
	for most := 0; most <= 16; most++ {
		s := made(t, with(1, api.Region{Kind: api.KindChain, Cap: most}))
		var want []int64
		for i := range int64(most) {
			k := (i*7+3)%17*2 - 10
			answers(t, s, 0, api.CodeOK, 0, api.CallHas, k)
			answers(t, s, 0, api.CodeNone, 0, api.CallDel, k)
			answers(t, s, 0, api.CodeOK, 0, api.CallAdd, k)
			answers(t, s, 0, api.CodeThere, 0, api.CallAdd, k)
			answers(t, s, 1, api.CodeOK, 0, api.CallHas, k)
			answers(t, s, i+1, api.CodeOK, 0, api.CallLen)
			want = append(want, k)
			slices.Sort(want)
			chainIs(t, s, want)
		}
		// A full one tells first that a key is there, and then that there is no room.
		for k := int64(-12); k <= 30; k++ {
			code := api.CodeFull
			if slices.Contains(want, k) {
				code = api.CodeThere
			}
			answers(t, s, 0, code, 0, api.CallAdd, k)
		}
		chainIs(t, s, want)
		for i := range most {
			at := i * 5 % len(want)
			k := want[at]
			answers(t, s, 0, api.CodeOK, 0, api.CallDel, k)
			answers(t, s, 0, api.CodeNone, 0, api.CallDel, k)
			want = slices.Delete(want, at, at+1)
			chainIs(t, s, want)
			answers(t, s, 0, api.CodeOK, 0, api.CallAdd, 31)
			answers(t, s, 0, api.CodeOK, 0, api.CallDel, 31)
		}
		answers(t, s, 0, api.CodeNone, 0, api.CallLeast)
		answers(t, s, 0, api.CodeOK, 0, api.CallLen)
	}
}

// chainIs: the chain of the region 0 holds these keys, by all calls that ask.
func chainIs(t *testing.T, s *plain.State, keys []int64) {
	t.Helper()
	shapesAre(t, s, values(api.KindChain, keys...))
	answers(t, s, int64(len(keys)), api.CodeOK, 0, api.CallLen)
	if len(keys) == 0 {
		answers(t, s, 0, api.CodeNone, 0, api.CallLeast)
	} else {
		answers(t, s, keys[0], api.CodeOK, 0, api.CallLeast)
	}
	for k := int64(-12); k <= 30; k++ {
		has := int64(0)
		if slices.Contains(keys, k) {
			has = 1
		}
		answers(t, s, has, api.CodeOK, 0, api.CallHas, k)
		i := slices.IndexFunc(keys, func(key int64) bool { return key > k })
		if i < 0 {
			answers(t, s, 0, api.CodeNone, 0, api.CallNext, k)
		} else {
			answers(t, s, keys[i], api.CodeOK, 0, api.CallNext, k)
		}
	}
}

// P20.3: keys of a chain at the edges: above the greatest number there is none, and the key 0 is no sign of that.
func TestChainEdges(t *testing.T) {
	s := made(t, with(1, api.Region{Kind: api.KindChain, Cap: 3}))
	answers(t, s, 0, api.CodeOK, 0, api.CallAdd, math.MaxInt64)
	answers(t, s, 0, api.CodeNone, 0, api.CallNext, math.MaxInt64)
	answers(t, s, math.MaxInt64, api.CodeOK, 0, api.CallNext, math.MaxInt64-1)
	answers(t, s, math.MaxInt64, api.CodeOK, 0, api.CallNext, math.MinInt64)
	answers(t, s, 0, api.CodeOK, 0, api.CallAdd, math.MinInt64)
	answers(t, s, 0, api.CodeOK, 0, api.CallAdd, 0)
	answers(t, s, math.MinInt64, api.CodeOK, 0, api.CallLeast)
	answers(t, s, 0, api.CodeOK, 0, api.CallNext, math.MinInt64)
	answers(t, s, 0, api.CodeOK, 0, api.CallNext, -1)
	answers(t, s, math.MaxInt64, api.CodeOK, 0, api.CallNext, 0)
	answers(t, s, 0, api.CodeNone, 0, api.CallNext, math.MaxInt64)
	answers(t, s, 0, api.CodeThere, 0, api.CallAdd, math.MinInt64)
	answers(t, s, 0, api.CodeFull, 0, api.CallAdd, math.MinInt64+1)
	shapesAre(t, s, values(api.KindChain, math.MinInt64, 0, math.MaxInt64))
	answers(t, s, 0, api.CodeOK, 0, api.CallDel, math.MinInt64)
	answers(t, s, 0, api.CodeOK, 0, api.CallLeast)
	answers(t, s, 0, api.CodeOK, 0, api.CallDel, math.MaxInt64)
	shapesAre(t, s, values(api.KindChain, 0))
}

// P20.3: all sequences of a few calls with a few keys, of the capacities 0 to 2, held against the model.
func TestAllShortSequences(t *testing.T) {
	for _, kind := range kinds() {
		for most := range 3 {
			c := with(1, api.Region{Kind: kind, Cap: most})
			everySequence(t, made(t, c), newModel(c), 4)
		}
	}
}

// everySequence does each call with each of a few arguments, and behind it all that are shorter by one.
func everySequence(t *testing.T, s *plain.State, m *model, length int) {
	t.Helper()
	isModel(t, s, m)
	if length == 0 {
		return
	}
	for _, k := range callsOf(m.regions[0].Kind) {
		for key := range int64(3) {
			args := []int64{key, int64(length)}[:k.args]
			after, afterModel := s.Copy(), m.copied()
			answer, code := afterModel.regions[0].call(k.call, args)
			answers(t, after, answer, code, 0, k.call, args...)
			everySequence(t, after, afterModel, length-1)
			if k.args == 0 {
				break
			}
		}
	}
}

// P20.2, P20.3: any calls, one behind the other, over several regions, held against the model; a call changes its own region alone.
func TestAnyCalls(t *testing.T) {
	seed := strewn(2)
	for range 300 {
		c := seed.config()
		s, m := made(t, c), newModel(c)
		for i := range 300 {
			holds(t, &seed, s, m)
			if i%10 == 0 {
				isModel(t, s, m)
			}
		}
		isModel(t, s, m)
		if t.Failed() {
			t.Fatalf("of %+v", c)
		}
	}
}

// P20.3: the table's calls each meet each of their codes in what comes at random.
func TestAnyCallsMeetEveryCode(t *testing.T) {
	seed := strewn(3)
	type met struct{ kind, call, code int }
	seen := map[met]int{}
	for range 50 {
		c := with(1, oneOfEach(1+seed.below(3))...)
		m := newModel(c)
		s := made(t, c)
		for range 400 {
			region := seed.below(4)
			k, args := seed.call(m.regions[region].Kind)
			answer, code := m.regions[region].call(k.call, args)
			answers(t, s, answer, code, region, k.call, args...)
			seen[met{k.kind, k.call, code}]++
		}
		isModel(t, s, m)
	}
	for _, want := range []met{
		{api.KindCounter, api.CallAdd, api.CodeOK}, {api.KindCounter, api.CallAdd, api.CodeNone}, {api.KindCounter, api.CallGet, api.CodeOK}, {api.KindCounter, api.CallGet, api.CodeNone},
		{api.KindQueue, api.CallPut, api.CodeOK}, {api.KindQueue, api.CallPut, api.CodeFull}, {api.KindQueue, api.CallGet, api.CodeOK}, {api.KindQueue, api.CallGet, api.CodeNone}, {api.KindQueue, api.CallLen, api.CodeOK},
		{api.KindDict, api.CallGet, api.CodeOK}, {api.KindDict, api.CallGet, api.CodeNone}, {api.KindDict, api.CallPut, api.CodeOK}, {api.KindDict, api.CallPut, api.CodeFull},
		{api.KindDict, api.CallDel, api.CodeOK}, {api.KindDict, api.CallDel, api.CodeNone}, {api.KindDict, api.CallLen, api.CodeOK},
		{api.KindChain, api.CallAdd, api.CodeOK}, {api.KindChain, api.CallAdd, api.CodeThere}, {api.KindChain, api.CallAdd, api.CodeFull}, {api.KindChain, api.CallDel, api.CodeOK}, {api.KindChain, api.CallDel, api.CodeNone},
		{api.KindChain, api.CallHas, api.CodeOK}, {api.KindChain, api.CallLeast, api.CodeOK}, {api.KindChain, api.CallLeast, api.CodeNone}, {api.KindChain, api.CallNext, api.CodeOK}, {api.KindChain, api.CallNext, api.CodeNone}, {api.KindChain, api.CallLen, api.CodeOK},
	} {
		if seen[want] == 0 {
			t.Errorf("%+v was not met", want)
		}
	}
}
