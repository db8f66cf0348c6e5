package prog_test

import (
	"fmt"
	"math"
	"math/big"
	"slices"
	"testing"

	"carousel/api"
	"carousel/mem"
	"carousel/prog"
)

// edgeNumbers are the least, the greatest, and those that a smaller kind of number would take for another one.
func edgeNumbers() []int64 {
	return []int64{
		math.MinInt64, math.MinInt64 + 1, -1 << 62, -1<<32 - 1, math.MinInt32 - 1, math.MinInt32, -65537, -32769, -32768, -257, -256, -129, -128, -65, -64, -63, -3, -2, -1,
		0, 1, 2, 3, 31, 32, 62, 63, 64, 65, 127, 128, 129, 255, 256, 257, 32767, 32768, 65535, 65536, math.MaxInt32, 1 << 31, math.MaxUint32, 1 << 32, 1<<32 + 1, 1 << 62, math.MaxInt64 - 1, math.MaxInt64,
	}
}

// pushes are lines that put numbers on the stack.
func pushes(numbers ...int64) []string {
	var lines []string
	for _, n := range numbers {
		lines = append(lines, fmt.Sprintf("push64 %d", n))
	}
	return lines
}

// behind is a job whose next step is the one behind these lines, which need no access.
func behind(t *testing.T, c api.Config, lines []string, rest ...string) (*prog.Machine, *mem.Mem) {
	t.Helper()
	x, m := made(t, c, program(t, append(lines, rest...)...)), memory(t, c)
	steps(t, x, m, movedBy())
	steps(t, x, m, times(len(lines), moved())...)
	return x, m
}

// becomes: an instruction that needs no access turns the numbers on the stack into others, what lies below stays, and the program goes on behind it.
func becomes(t *testing.T, word string, numbers, want []int64) {
	t.Helper()
	below := []int64{-77, 78}
	x, m := behind(t, with(1), pushes(slices.Concat(below, numbers)...), word, "commit")
	steps(t, x, m, moved())
	if got := x.Stack(); !slices.Equal(got, slices.Concat(below, want)) {
		t.Errorf("%s of %v: %v, not %v", word, numbers, got, want)
	}
	steps(t, x, m, done())
}

// wrapped is what is left of a number of any size that goes round.
func wrapped(n *big.Int) int64 {
	word := new(big.Int).Mod(n, new(big.Int).Lsh(big.NewInt(1), 64))
	return int64(word.Uint64())
}

// asWord is a number's word.
func asWord(a int64) *big.Int { return new(big.Int).SetUint64(uint64(a)) }

// truth is 1 or 0.
func truth(so bool) int64 {
	if so {
		return 1
	}
	return 0
}

// reckoned is what chapter 13 says of an instruction that takes two numbers and puts one, by numbers of any size.
func reckoned(word string, a, b int64) int64 {
	x, y := big.NewInt(a), big.NewInt(b)
	by := uint(new(big.Int).Mod(y, big.NewInt(64)).Int64())
	switch word {
	case "add":
		return wrapped(x.Add(x, y))
	case "sub":
		return wrapped(x.Sub(x, y))
	case "mul":
		return wrapped(x.Mul(x, y))
	case "div":
		if b == 0 {
			return 0
		}
		return wrapped(x.Quo(x, y))
	case "rem":
		if b == 0 {
			return 0
		}
		return wrapped(x.Rem(x, y))
	case "and":
		return wrapped(x.And(x, y))
	case "or":
		return wrapped(x.Or(x, y))
	case "xor":
		return wrapped(x.Xor(x, y))
	case "shl":
		return wrapped(x.Lsh(x, by))
	case "shr":
		return wrapped(x.Rsh(x, by))
	case "ushr":
		return wrapped(asWord(a).Rsh(asWord(a), by))
	case "eq":
		return truth(x.Cmp(y) == 0)
	case "lt":
		return truth(x.Cmp(y) < 0)
	}
	return truth(asWord(a).Cmp(asWord(b)) < 0)
}

// narrowTo is what conv makes of a number: its rest by 2^bits, less that, if it has a sign and is in the upper half.
func narrowTo(a int64, operand int) int64 {
	bits := []uint{8, 16, 32, 8, 16, 32}[operand]
	all := new(big.Int).Lsh(big.NewInt(1), bits)
	rest := new(big.Int).Mod(big.NewInt(a), all)
	if operand < 3 && rest.Bit(int(bits)-1) == 1 {
		rest.Sub(rest, all)
	}
	return rest.Int64()
}

// P21.2: instructions that take two numbers and put one, with all edges.
func TestTwoNumbers(t *testing.T) {
	for _, word := range []string{"add", "sub", "mul", "div", "rem", "and", "or", "xor", "shl", "shr", "ushr", "eq", "lt", "ult"} {
		for _, a := range edgeNumbers() {
			for _, b := range edgeNumbers() {
				becomes(t, word, []int64{a, b}, []int64{reckoned(word, a, b)})
			}
		}
	}
}

// P21.2: some of them, told by hand.
func TestTwoNumbersByHand(t *testing.T) {
	for _, x := range []struct {
		word       string
		a, b, want int64
	}{
		{"add", math.MaxInt64, 1, math.MinInt64}, {"add", 2, 3, 5}, {"sub", math.MinInt64, 1, math.MaxInt64}, {"sub", 2, 3, -1}, {"mul", 1 << 62, 4, 0}, {"mul", -3, 5, -15},
		{"div", 7, 2, 3}, {"div", -7, 2, -3}, {"div", 7, -2, -3}, {"div", -7, -2, 3}, {"div", 5, 0, 0}, {"div", math.MinInt64, -1, math.MinInt64}, {"div", 0, 0, 0},
		{"rem", 7, 2, 1}, {"rem", -7, 2, -1}, {"rem", 7, -2, 1}, {"rem", -7, -2, -1}, {"rem", 5, 0, 0}, {"rem", math.MinInt64, -1, 0}, {"rem", 0, 0, 0},
		{"and", 12, 10, 8}, {"or", 12, 10, 14}, {"xor", 12, 10, 6}, {"and", -1, 5, 5}, {"xor", -1, 5, -6},
		{"shl", 1, 0, 1}, {"shl", 1, 63, math.MinInt64}, {"shl", 1, 64, 1}, {"shl", 1, -1, math.MinInt64}, {"shl", 3, 65, 6},
		{"shr", -5, 0, -5}, {"shr", -5, 1, -3}, {"shr", -5, 63, -1}, {"shr", -5, 64, -5}, {"shr", -5, -1, -1}, {"shr", 5, 63, 0}, {"shr", 5, -63, 2},
		{"ushr", -1, 0, -1}, {"ushr", -1, 1, math.MaxInt64}, {"ushr", -1, 63, 1}, {"ushr", -1, 64, -1}, {"ushr", -1, -1, 1},
		{"eq", 4, 4, 1}, {"eq", 4, 5, 0}, {"lt", 4, 5, 1}, {"lt", 5, 4, 0}, {"lt", 4, 4, 0}, {"lt", -1, 0, 1}, {"ult", -1, 0, 0}, {"ult", 0, -1, 1}, {"ult", 4, 4, 0}, {"ult", math.MaxInt64, math.MinInt64, 1},
	} {
		becomes(t, x.word, []int64{x.a, x.b}, []int64{x.want})
	}
}

// P21.2: the other instructions of the stack.
func TestOneNumber(t *testing.T) {
	for _, a := range edgeNumbers() {
		becomes(t, "dup", []int64{a}, []int64{a, a})
		becomes(t, "drop", []int64{a}, nil)
		becomes(t, "not", []int64{a}, []int64{-1 - a})
		becomes(t, "swap", []int64{a, 5}, []int64{5, a})
		becomes(t, "swap", []int64{5, a}, []int64{a, 5})
		becomes(t, "over", []int64{a, 5}, []int64{a, 5, a})
		becomes(t, "over", []int64{5, a}, []int64{5, a, 5})
		becomes(t, fmt.Sprintf("push64 %d", a), nil, []int64{a})
		for operand := range 6 {
			becomes(t, fmt.Sprintf("conv %d", operand), []int64{a}, []int64{narrowTo(a, operand)})
		}
	}
	for _, a := range []int64{-128, -127, -1, 0, 1, 127} {
		becomes(t, fmt.Sprintf("push8 %d", a), nil, []int64{a})
	}
	for _, a := range []int64{-32768, -32767, -256, -129, -1, 0, 1, 255, 256, 32767} {
		becomes(t, fmt.Sprintf("push16 %d", a), nil, []int64{a})
	}
	becomes(t, "conv 0", []int64{300}, []int64{44})
	becomes(t, "conv 0", []int64{200}, []int64{-56})
	becomes(t, "conv 3", []int64{-56}, []int64{200})
	becomes(t, "conv 5", []int64{-1}, []int64{math.MaxUint32})
	becomes(t, "conv 2", []int64{1 << 31}, []int64{math.MinInt32})
}

// P21.2: an argument that there is, and ones that there are not.
func TestArguments(t *testing.T) {
	all := []int64{math.MinInt64, 6, -7, math.MaxInt64}
	for count := range len(all) + 1 {
		for i := range 256 {
			x, m := made(t, with(1), program(t, "push8 5", fmt.Sprintf("arg %d", i), "commit"), all[:count]...), memory(t, with(1))
			steps(t, x, m, movedBy(), moved(), moved())
			want := int64(0)
			if i < count {
				want = all[i]
			}
			stackIs(t, x, 5, want)
			steps(t, x, m, done())
		}
	}
}

// P21.3: jumps ahead and back, and on to the next instruction.
func TestJumps(t *testing.T) {
	tells(t, with(1), program(t, "jump over", "push8 1", "tell", "over: push8 2", "tell", "commit"), nil, 2)
	tells(t, with(1), program(t, "jump 0", "push8 1", "tell", "commit"), nil, 1)
	tells(t, with(1), program(t, "jump start", "back: push8 1", "tell", "commit", "start: push8 2", "tell", "jump back"), nil, 2, 1)
	for _, a := range edgeNumbers() {
		told := []int64{3, a}
		if a == 0 {
			told = []int64{a}
		}
		tells(t, with(1), program(t, "arg 0", "jumpz on", "push8 3", "tell", "on: arg 0", "tell", "commit"), []int64{a}, told...)
		told = []int64{a, 4}
		if a == 0 {
			told = []int64{a, 5}
		}
		tells(t, with(1), program(t, "jump on", "back: push8 5", "tell", "commit", "on: arg 0", "dup", "tell", "jumpz back", "push8 4", "tell", "commit"), []int64{a}, told...)
	}
	// A loop, with its number on the stack.
	tells(t, with(1), program(t, "push8 5", "again: dup", "tell", "push8 1", "sub", "dup", "jumpz out", "jump again", "out: commit"), nil, 5, 4, 3, 2, 1)
	// jumpz takes its number, whether it jumps or not.
	for _, a := range []int64{0, 1} {
		x, m := behind(t, with(1), pushes(8, a), "jumpz on", "on: commit")
		steps(t, x, m, moved())
		stackIs(t, x, 8)
		steps(t, x, m, done())
	}
}

// P21.3: a jump into the midst of an instruction goes on by what stands there.
func TestJumpInto(t *testing.T) {
	// push16's operand is tell, commit.
	tells(t, with(1), "\x01\x09\x18\x01\x00\x02\x1d\x00", nil, 9)
	// The jump's own operand: 01 00 is push8 0.
	x, m := made(t, with(1), "\x18\xfe\xff"), memory(t, with(1))
	comesTo(t, x, m, api.ErrBadProgram)
	tells(t, with(1), "\x1a\x04\x00\xff\x02\x07\x00\x1d\x18\x01\x00\x02\x00\x00", nil, 7)
	// Where the byte in the midst is none.
	x, m = made(t, with(1), "\x18\x01\x00\x02\x29\x00\x00"), memory(t, with(1))
	steps(t, x, m, movedBy(), moved(), failed(api.ErrBadProgram))
	endsAs(t, x, 1, api.ErrBadProgram)
}

// P21.3: a place outside the code is a bad opcode when it is come to, and not ahead of that.
func TestPlacesOutside(t *testing.T) {
	for _, last := range []string{
		"jump -4", "jump -5", "jump -32768", "jump 0", "jump 1", "jump 2", "jump 32767",
		"call 3", "call 4", "call 512", "call 513", "call 32767", "call 32768", "call 65535",
	} {
		x, m := made(t, with(1), program(t, last)), memory(t, with(1))
		steps(t, x, m, movedBy(), moved())
		if _, over := x.Outcome(); over {
			t.Errorf("%s: over ahead of that place", last)
		}
		steps(t, x, m, failed(api.ErrBadProgram), nothing())
		endsAs(t, x, 1, api.ErrBadProgram)
	}
	for _, offset := range []int{-6, -7, -32768, 0, 1, 32767} {
		// Where jumpz doesn't jump it goes on behind itself: and that is behind the code.
		for _, a := range []int{0, 1} {
			x, m := made(t, with(1), program(t, fmt.Sprintf("push8 %d", a), fmt.Sprintf("jumpz %d", offset))), memory(t, with(1))
			steps(t, x, m, movedBy(), moved(), moved(), failed(api.ErrBadProgram))
			endsAs(t, x, 1, api.ErrBadProgram)
			stackIs(t, x)
		}
	}
	// Each instruction may be the last one, and then there is none behind it.
	for _, word := range []string{"push8 1", "push16 1", "push64 1", "dup", "drop", "swap", "over", "add", "not", "conv 0", "arg 0", "tell"} {
		x, m := behind(t, with(1), pushes(1, 2), word)
		steps(t, x, m, moved(), failed(api.ErrBadProgram))
		endsAs(t, x, 1, api.ErrBadProgram)
	}
	x, m := behind(t, with(1), pushes(1, 2), "store")
	steps(t, x, m, moved(), failed(api.ErrBadProgram))
	endsAs(t, x, 1, api.ErrBadProgram)
	x, m = behind(t, with(1), pushes(1, 2), "load")
	steps(t, x, m, movedBy(), movedBy(), failed(api.ErrBadProgram))
	endsAs(t, x, 1, api.ErrBadProgram)
	stackIs(t, x, 1, 0)
}

// P21.3: an operand that the code's end cuts off is no instruction.
func TestCutOff(t *testing.T) {
	for _, whole := range []string{"push8 1", "push16 1", "push64 1", "conv 0", "jump 0", "jumpz 0", "call 0", "arg 0", "cadd 0", "cget 0"} {
		bytes := program(t, whole)
		for cut := 1; cut < len(bytes); cut++ {
			c := with(1, counters(2))
			x, m := made(t, c, program(t, pushes(0, 0)...)+bytes[:cut]), memory(t, c)
			steps(t, x, m, movedBy(), moved(), moved(), failed(api.ErrBadProgram))
			stackIs(t, x, 0, 0)
		}
	}
	for operand := 6; operand < 256; operand++ {
		x, m := made(t, with(1), "\x01\x01\x17"+string([]byte{byte(operand)})+"\x00"), memory(t, with(1))
		steps(t, x, m, movedBy(), moved(), failed(api.ErrBadProgram))
	}
	for opcode := 41; opcode < 256; opcode++ {
		x, m := made(t, with(1), string([]byte{byte(opcode), 0, 0, 0, 0, 0, 0, 0, 0, 0})), memory(t, with(1))
		steps(t, x, m, movedBy(), failed(api.ErrBadProgram))
	}
}

// P21.3: calls and returns, one within the other and one behind the other.
func TestCalls(t *testing.T) {
	tells(t, with(1), program(t, "call sub", "push8 3", "tell", "call sub", "commit", "sub: push8 9", "tell", "ret"), nil, 9, 3, 9)
	tells(t, with(1), program(t, "call outer", "commit", "outer: push8 1", "tell", "call inner", "push8 3", "tell", "ret", "inner: push8 2", "tell", "ret"), nil, 1, 2, 3)
	// A call back to the beginning, left by a number on the stack.
	tells(t, with(1), program(t, "push8 7", "tell", "push8 0", "load", "jumpz on", "commit", "on: push8 0", "push8 1", "store", "call 0"), nil, 7, 7)
	// A ret goes behind the call, also where the call's own place was jumped to.
	tells(t, with(1), program(t, "jump go", "sub: ret", "go: call sub", "push8 6", "tell", "commit"), nil, 6)
	// Commit within a call.
	tells(t, with(1), program(t, "call sub", "push8 1", "tell", "commit", "sub: push8 2", "tell", "commit"), nil, 2)
}

// deep is a program that calls so many times, one within the other, and comes back: at the bottom it tells how deep it is.
func deep(t *testing.T, calls int) string {
	t.Helper()
	lines := []string{"push8 0", "call L1", "tell", "commit"}
	if calls == 0 {
		lines = []string{"push8 0", "tell", "commit"}
	}
	for i := 1; i <= calls; i++ {
		lines = append(lines, fmt.Sprintf("L%d: push8 1", i), "add")
		if i < calls {
			lines = append(lines, fmt.Sprintf("call L%d", i+1))
		}
		lines = append(lines, "ret")
	}
	return program(t, lines...)
}

// Words: MaxCalls calls one within the other, and one more; a ret without a call.
func TestCallStack(t *testing.T) {
	for calls := range 9 {
		tells(t, with(1), deep(t, calls), nil, int64(calls))
	}
	x, m := made(t, with(1), deep(t, 9)), memory(t, with(1))
	steps(t, x, m, movedBy(), moved())
	steps(t, x, m, times(3*8, moved())...)
	stackIs(t, x, 8)
	steps(t, x, m, failed(api.ErrBadProgram))
	endsAs(t, x, 1, api.ErrBadProgram)
	stackIs(t, x, 8)
	// A call for ever.
	x, m = made(t, with(1), program(t, "call 0")), memory(t, with(1))
	steps(t, x, m, inRow([]api.Answer{movedBy()}, times(8, moved()), []api.Answer{failed(api.ErrBadProgram)})...)
	// One ret more than there were calls.
	x, m = made(t, with(1), program(t, "call sub", "sub: ret")), memory(t, with(1))
	steps(t, x, m, movedBy(), moved(), moved(), failed(api.ErrBadProgram))
	// As many calls as one likes, if they come back.
	var lines []string
	for range 40 {
		lines = append(lines, "call sub")
	}
	tells(t, with(1), program(t, append(lines, "push8 4", "tell", "commit", "sub: ret")...), nil, 4)
}

// Words: MaxTells numbers, and one more.
func TestMostTells(t *testing.T) {
	var lines []string
	var want []int64
	for i := range 16 {
		lines = append(lines, fmt.Sprintf("push8 %d", i+40), "tell")
		want = append(want, int64(i+40))
		tells(t, with(1), program(t, append(slices.Clone(lines), "commit")...), nil, want...)
	}
	x, m := made(t, with(1), program(t, append(lines, "push8 99", "tell", "commit")...)), memory(t, with(1))
	steps(t, x, m, movedBy())
	steps(t, x, m, times(33, moved())...)
	steps(t, x, m, failed(api.ErrBadProgram), nothing())
	endsAs(t, x, 1, api.ErrBadProgram)
	stackIs(t, x, 99)
}

// effects are how many numbers each instruction takes and puts, over with(1, counters(2), queueOf(2), dictOf(2), chainOf(2)).
func effects() []struct {
	word        string
	takes, puts int
} {
	return []struct {
		word        string
		takes, puts int
	}{
		{"commit", 0, 0}, {"push8 1", 0, 1}, {"push16 1", 0, 1}, {"push64 1", 0, 1}, {"dup", 1, 2}, {"drop", 1, 0}, {"swap", 2, 2}, {"over", 2, 3},
		{"add", 2, 1}, {"sub", 2, 1}, {"mul", 2, 1}, {"div", 2, 1}, {"rem", 2, 1}, {"and", 2, 1}, {"or", 2, 1}, {"xor", 2, 1}, {"not", 1, 1},
		{"shl", 2, 1}, {"shr", 2, 1}, {"ushr", 2, 1}, {"eq", 2, 1}, {"lt", 2, 1}, {"ult", 2, 1}, {"conv 3", 1, 1}, {"jump 0", 0, 0}, {"jumpz 0", 1, 0},
		{"arg 0", 0, 1}, {"arg 9", 0, 1}, {"tell", 1, 0}, {"abort", 0, 0}, {"load", 1, 1}, {"store", 2, 0},
		{"cadd 0", 2, 2}, {"cget 0", 1, 2},
		{"cput 1", 1, 2}, {"cget 1", 0, 2}, {"clen 1", 0, 2},
		{"cget 2", 1, 2}, {"cput 2", 2, 2}, {"cdel 2", 1, 2}, {"clen 2", 0, 2},
		{"cadd 3", 1, 2}, {"cdel 3", 1, 2}, {"chas 3", 1, 2}, {"cleast 3", 0, 2}, {"cnext 3", 1, 2}, {"clen 3", 0, 2},
	}
}

// Words: each instruction with each number of numbers on the stack: too few, enough, and too many to leave no more than MaxStack.
func TestStackFaults(t *testing.T) {
	c := with(1, counters(2), queueOf(2), dictOf(2), chainOf(2))
	for _, e := range effects() {
		for depth := range 33 {
			numbers := make([]int64, depth)
			for i := range numbers {
				numbers[i] = int64(i % 2)
			}
			x, m := behind(t, c, pushes(numbers...), e.word, "commit")
			fault := depth < e.takes || depth-e.takes+e.puts > 32
			if !fault {
				o, over := toEnd(t, x, m, 200)
				if want := map[string]api.Errno{"abort": api.ErrOwn}[e.word]; !over || o.Err != want {
					t.Errorf("%s with %d numbers: %+v, %v", e.word, depth, o, over)
				}
				if got := len(x.Stack()); got != depth-e.takes+e.puts {
					t.Errorf("%s with %d numbers: %d behind it", e.word, depth, got)
				}
				continue
			}
			// It does nothing else.
			steps(t, x, m, failed(api.ErrBadProgram), nothing())
			endsAs(t, x, 1, api.ErrBadProgram)
			stackIs(t, x, numbers...)
			toldIs(t, x, opened(), begun(0, 0), ended(api.ErrBadProgram, 0, 0))
		}
	}
}

// Words: pushes one beyond the last room on the stack.
func TestFullStack(t *testing.T) {
	x, m := made(t, with(1), program(t, "again: push8 1", "jump again")), memory(t, with(1))
	steps(t, x, m, movedBy())
	steps(t, x, m, times(64, moved())...)
	stackIs(t, x, slices.Repeat([]int64{1}, 32)...)
	steps(t, x, m, failed(api.ErrBadProgram))
	stackIs(t, x, slices.Repeat([]int64{1}, 32)...)
}

// callsOf are the calls that each kind has.
func callsOf(kind int) []int {
	return map[int][]int{
		api.KindCounter: {api.CallAdd, api.CallGet},
		api.KindQueue:   {api.CallPut, api.CallGet, api.CallLen},
		api.KindDict:    {api.CallGet, api.CallPut, api.CallDel, api.CallLen},
		api.KindChain:   {api.CallAdd, api.CallDel, api.CallHas, api.CallLeast, api.CallNext, api.CallLen},
	}[kind]
}

// Words: a region's number that is none, and calls that a region's kind has not, whatever is on the stack.
func TestBadCalls(t *testing.T) {
	regions := []api.Region{counters(2), queueOf(2), dictOf(2), chainOf(2), counters(0), queueOf(0), dictOf(0), chainOf(0)}
	for count := range 9 {
		c := with(1, regions[:count]...)
		for call := 1; call <= 8; call++ {
			for _, region := range []int{0, 1, 2, 3, 4, 5, 6, 7, 8, 9, 127, 128, 254, 255} {
				has := region < count && slices.Contains(callsOf(regions[region].Kind), call)
				for depth := range 4 {
					code := program(t, pushes(make([]int64, depth)...)...) + string([]byte{byte(32 + call), byte(region), 0})
					x, m := made(t, c, code), memory(t, c)
					steps(t, x, m, movedBy())
					steps(t, x, m, times(depth, moved())...)
					o, over := toEnd(t, x, m, 200)
					if !has && (!over || o.Err != api.ErrBadProgram || len(x.Stack()) != depth) {
						t.Errorf("the call %d of the region %d of %d, with %d numbers: %+v, %v", call, region, count, depth, o, over)
					}
					if has && depth > 1 && (!over || o.Err != api.OK) {
						t.Errorf("the call %d of the region %d of %d, with %d numbers: %+v, %v", call, region, count, depth, o, over)
					}
				}
			}
		}
	}
}

// P21.2: plain places go round, as words: below 0, at Raw and above, the least and the greatest number.
func TestPlainPlaces(t *testing.T) {
	for _, raw := range []int{1, 2, 3, 5, 7, 63, 64} {
		c := with(raw, counters(1))
		for _, p := range append(edgeNumbers(), int64(raw), int64(raw)-1, int64(raw)+1, -int64(raw), -int64(raw)-1) {
			cell := int(new(big.Int).Mod(asWord(p), big.NewInt(int64(raw))).Int64())
			m := memory(t, c)
			for i := range raw {
				setCell(t, m, i, int64(1000+i))
			}
			comesTo(t, made(t, c, program(t, "arg 0", "load", "tell", "commit"), p), m, api.OK, int64(1000+cell))
			comesTo(t, made(t, c, program(t, "arg 0", "push8 7", "store", "commit"), p), m, api.OK)
			want := cellsOf(t, m)
			for i := range want {
				want[i] = int64(1000 + i)
			}
			want[cell], want[raw] = 7, 0
			cellsAre(t, m, want...)
		}
	}
}

// P21.2: load takes its number with its first step, and puts what was read with its last one; of a cell that was stored to there is no access.
func TestLoad(t *testing.T) {
	c := with(3)
	x, m := behind(t, c, pushes(5, 1), "load", "push8 1", "push8 6", "store", "push8 1", "load", "push8 2", "load", "commit")
	setCell(t, m, 1, 50)
	steps(t, x, m, movedBy())
	stackIs(t, x, 5)
	steps(t, x, m, movedBy())
	stackIs(t, x, 5, 50)
	steps(t, x, m, times(4, moved())...)
	stackIs(t, x, 5, 50, 1)
	steps(t, x, m, moved())
	stackIs(t, x, 5, 50, 6)
	steps(t, x, m, moved(), movedBy(), movedBy())
	stackIs(t, x, 5, 50, 6, 0)
	toldIs(t, x, opened(), begun(0, 0), read(1, 50, 0, 0), wrote(1, 6), readOwn(1, 6, 0, 0), read(2, 0, 0, 0))
	writesAre(t, x, api.Write{Cell: 1, Value: 6})
}

// P21.2: store takes its two, writes no shared word, and is seen by no one ahead of the commit.
func TestStore(t *testing.T) {
	c := with(3)
	x, m := behind(t, c, pushes(5, 1, -9), "store", "push8 1", "push8 8", "store", "push8 0", "push8 4", "store", "commit")
	steps(t, x, m, moved())
	stackIs(t, x, 5)
	writesAre(t, x, api.Write{Cell: 1, Value: -9})
	steps(t, x, m, times(6, moved())...)
	writesAre(t, x, api.Write{Cell: 1, Value: 8}, api.Write{Cell: 0, Value: 4})
	cellsAre(t, m, 0, 0, 0)
	steps(t, x, m, written(2)...)
	cellsAre(t, m, 4, 8, 0)
	endsAs(t, x, 1, api.OK)
	stackIs(t, x, 5)
}

// askedFor is a call with its arguments, and what it answers.
type askedFor struct {
	args        []int64
	word        string
	value, code int64
}

// P21.2: each call of each kind, with its codes, in one transaction and in one each.
func TestAsking(t *testing.T) {
	c := with(2, counters(2), queueOf(2), dictOf(2), chainOf(2))
	c.Writes = 24
	all := [][]askedFor{
		{
			{[]int64{1, 5}, "cadd 0", 5, api.CodeOK}, {[]int64{1, -7}, "cadd 0", -2, api.CodeOK}, {[]int64{1}, "cget 0", -2, api.CodeOK}, {[]int64{0}, "cget 0", 0, api.CodeOK},
			{[]int64{2, 5}, "cadd 0", 0, api.CodeNone}, {[]int64{-1}, "cget 0", 0, api.CodeNone},
		},
		{
			{nil, "cget 1", 0, api.CodeNone}, {[]int64{8}, "cput 1", 0, api.CodeOK}, {nil, "clen 1", 1, api.CodeOK}, {[]int64{9}, "cput 1", 0, api.CodeOK}, {[]int64{10}, "cput 1", 0, api.CodeFull},
			{nil, "cget 1", 8, api.CodeOK}, {nil, "clen 1", 1, api.CodeOK},
		},
		{
			{[]int64{4}, "cget 2", 0, api.CodeNone}, {[]int64{4, 40}, "cput 2", 0, api.CodeOK}, {[]int64{4, 41}, "cput 2", 0, api.CodeOK}, {[]int64{4}, "cget 2", 41, api.CodeOK}, {[]int64{5, 50}, "cput 2", 0, api.CodeOK},
			{[]int64{6, 60}, "cput 2", 0, api.CodeFull}, {nil, "clen 2", 2, api.CodeOK}, {[]int64{4}, "cdel 2", 0, api.CodeOK}, {[]int64{4}, "cdel 2", 0, api.CodeNone},
		},
		{
			{nil, "cleast 3", 0, api.CodeNone}, {[]int64{6}, "cadd 3", 0, api.CodeOK}, {[]int64{6}, "cadd 3", 0, api.CodeThere}, {[]int64{2}, "cadd 3", 0, api.CodeOK}, {[]int64{9}, "cadd 3", 0, api.CodeFull},
			{[]int64{6}, "chas 3", 1, api.CodeOK}, {[]int64{7}, "chas 3", 0, api.CodeOK}, {nil, "cleast 3", 2, api.CodeOK}, {[]int64{2}, "cnext 3", 6, api.CodeOK}, {[]int64{6}, "cnext 3", 0, api.CodeNone}, {nil, "clen 3", 2, api.CodeOK},
			{[]int64{2}, "cdel 3", 0, api.CodeOK}, {[]int64{2}, "cdel 3", 0, api.CodeNone}, {nil, "clen 3", 1, api.CodeOK},
		},
	}
	end := []int64{0, 0, 0, -2, 1, 1, 8, 9}
	one := memory(t, c)
	for _, list := range all {
		for start := 0; start < len(list); start += 7 {
			var lines []string
			var told []int64
			for _, a := range list[start:min(start+7, len(list))] {
				lines = append(append(lines, pushes(a.args...)...), a.word, "swap", "tell", "tell")
				told = append(told, a.value, a.code)
			}
			comesTo(t, made(t, c, program(t, append(lines, "commit")...)), one, api.OK, told...)
		}
	}
	each := memory(t, c)
	for _, list := range all {
		for _, a := range list {
			lines := append(pushes(append([]int64{-3}, a.args...)...), a.word, "tell", "tell", "tell", "commit")
			comesTo(t, made(t, c, program(t, lines...)), each, api.OK, a.code, a.value, -3)
		}
	}
	got := cellsOf(t, one)
	if !slices.Equal(got[:8], end) || !slices.Equal(got, cellsOf(t, each)) {
		t.Errorf("%v and %v, not %v first", got, cellsOf(t, each), end)
	}
}

// P21.2: a call's reads of cells that the transaction wrote need no access: it goes on at once, to its end.
func TestAskingGoesOnAtOnce(t *testing.T) {
	c := with(1, counters(2), queueOf(2))
	x, m := behind(t, c, pushes(1, 5), "cadd 0", "push8 1", "push8 4", "cadd 0", "push8 3", "cput 1", "cget 1", "push8 9", "cget 0", "commit")
	steps(t, x, m, movedBy(), movedBy(), moved())
	stackIs(t, x, 5, 0)
	steps(t, x, m, moved(), moved(), moved())
	stackIs(t, x, 5, 0, 9, 0)
	// FIRST and LEN are read, two accesses each; the slot and LEN are written, and that is the end.
	steps(t, x, m, moved(), movedBy())
	stackIs(t, x, 5, 0, 9, 0)
	steps(t, x, m, movedBy(), movedBy(), movedBy(), moved())
	stackIs(t, x, 5, 0, 9, 0, 0, 0)
	// FIRST is read again, as it was not written; LEN and the slot were.
	before := len(x.Told(0))
	steps(t, x, m, movedBy(), movedBy(), moved())
	stackIs(t, x, 5, 0, 9, 0, 0, 0, 3, 0)
	want := []api.Event{read(3, 0, 0, 0), readOwn(4, 1, 0, 0), readOwn(5, 3, 0, 0), wrote(3, 1), wrote(4, 0)}
	if got := x.Told(before); !slices.Equal(got, want) {
		t.Errorf("Told: %+v, not %+v", got, want)
	}
	// A call that wants nothing of the cells.
	steps(t, x, m, moved(), moved())
	stackIs(t, x, 5, 0, 9, 0, 0, 0, 3, 0, 0, api.CodeNone)
	writesAre(t, x, api.Write{Cell: 2, Value: 9}, api.Write{Cell: 5, Value: 3}, api.Write{Cell: 4, Value: 0}, api.Write{Cell: 3, Value: 1})
}

// P21.2: the regions lie where place says: each one's calls write its own cells.
func TestRegionsApart(t *testing.T) {
	c := with(3, counters(2), counters(0), queueOf(1), counters(3), dictOf(1), chainOf(1), queueOf(2), counters(1))
	m := memory(t, c)
	code := program(t, "push8 1", "push8 11", "cadd 0", "push8 12", "cput 2", "push8 2", "push8 13", "cadd 3", "push8 14", "push8 15", "cput 4", "push8 16", "cadd 5", "commit")
	c.Writes = 24
	comesTo(t, made(t, c, code), m, api.OK)
	comesTo(t, made(t, c, program(t, "push8 17", "cput 6", "push8 0", "push8 18", "cadd 7", "push8 0", "push8 19", "cadd 1", "tell", "commit")), m, api.OK, api.CodeNone)
	cellsAre(t, m, 0, 0, 0, 0, 11, 0, 1, 12, 0, 0, 13, 1, 1, 14, 15, 1, 0, 1, 16, 0, 0, 1, 17, 0, 18)
}

// P21.8: any one byte, and any two, come to an end: only a commit, and what needs nothing ahead of one, ends with OK.
func TestShortPrograms(t *testing.T) {
	c := with(2, counters(1), queueOf(1), dictOf(1), chainOf(1))
	for first := range 256 {
		for second := -1; second < 256; second++ {
			code := []byte{byte(first)}
			if second >= 0 {
				code = append(code, byte(second))
			}
			x, m := made(t, c, string(code)), memory(t, c)
			o, over := toEnd(t, x, m, 40)
			if !over || o.Tries != 1 || o.Err != api.OK && o.Err != api.ErrBadProgram && o.Err != api.ErrOwn {
				t.Fatalf("%x: %+v, %v", code, o, over)
			}
			if want := first == api.OpCommit; want != (o.Err == api.OK) && second != api.OpCommit {
				t.Fatalf("%x: %+v", code, o)
			}
		}
	}
}
