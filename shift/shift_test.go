package shift_test

import (
	"math"
	"math/big"
	"testing"

	"carousel/api"
	"carousel/shift"
)

// someWords are words with few bits, with many, and with bits strewn about.
func someWords() []uint64 {
	words := []uint64{0, 1, 2, 3, 0x8000000000000000, 0x7fffffffffffffff, 0xffffffffffffffff, 0x0123456789abcdef, 0xfedcba9876543210}
	for k := range 64 {
		one := uint64(1) << k
		words = append(words, one, one-1, ^one)
	}
	strewn := uint64(1)
	for range 200 {
		strewn = strewn*6364136223846793005 + 1442695040888963407
		words = append(words, strewn)
	}
	return words
}

// someNumbers are the same words as numbers.
func someNumbers() []int64 {
	var numbers []int64
	for _, w := range someWords() {
		numbers = append(numbers, int64(w))
	}
	return numbers
}

// someCounts are counts of places: around 0 and 64, and at the ends.
func someCounts() []int64 {
	counts := []int64{math.MinInt64, math.MinInt64 + 1, math.MaxInt64 - 1, math.MaxInt64, 1 << 32, -1 << 32, 1<<32 + 7, 1000, -1000}
	for n := int64(-130); n <= 130; n++ {
		counts = append(counts, n)
	}
	return counts
}

// modulo is n modulo m, from 0 on, as whole numbers of any size have it.
func modulo(n, m *big.Int) *big.Int { return new(big.Int).Mod(n, m) }

func powerOfTwo(k int64) *big.Int { return new(big.Int).Exp(big.NewInt(2), big.NewInt(k), nil) }

// signed is the number from -2^(bits-1) on that is n modulo 2^bits.
func signed(n *big.Int, bits int64) int64 {
	m := modulo(n, powerOfTwo(bits))
	if m.Cmp(powerOfTwo(bits-1)) >= 0 {
		m.Sub(m, powerOfTwo(bits))
	}
	return m.Int64()
}

// mixByBig does what P1.1 says step by step over numbers of any size.
func mixByBig(x uint64) uint64 {
	word := new(big.Int).SetUint64(x)
	fold := func() { word.Xor(word, new(big.Int).Rsh(word, 33)) }
	times := func(hex string) {
		by, _ := new(big.Int).SetString(hex, 16)
		word.Mul(word, by)
		word = modulo(word, powerOfTwo(64))
	}
	fold()
	times("ff51afd7ed558ccd")
	fold()
	times("c4ceb9fe1a85ec53")
	fold()
	return word.Uint64()
}

// P1.1
func TestMix(t *testing.T) {
	for _, c := range []struct{ x, want uint64 }{
		{0, 0},
		{1, 12994781566227106604},
	} {
		if y := shift.Mix(c.x); y != c.want {
			t.Errorf("Mix(%d) = %d, want %d", c.x, y, c.want)
		}
	}
	for _, x := range someWords() {
		if y, want := shift.Mix(x), mixByBig(x); y != want {
			t.Errorf("Mix(%#x) = %#x, want %#x", x, y, want)
		}
	}
}

// turnBitByBit carries each bit on its own to its place.
func turnBitByBit(x uint64, n int) uint64 {
	by := modulo(big.NewInt(int64(n)), big.NewInt(64)).Int64()
	var y uint64
	for k := range int64(64) {
		if x>>k&1 == 1 {
			y |= 1 << ((k + by) % 64)
		}
	}
	return y
}

// P1.2
func TestTurn(t *testing.T) {
	for _, c := range []struct {
		x    uint64
		n    int
		want uint64
	}{
		{1, 63, 1 << 63},
		{1, -1, 1 << 63},
		{3, 64, 3},
		{3, 0, 3},
		{3, -64, 3},
		{1 << 63, 1, 1},
		{0x0123456789abcdef, 8, 0x23456789abcdef01},
		{0x0123456789abcdef, -8, 0xef0123456789abcd},
		{1, math.MinInt, 1},
		{1, math.MaxInt, 1 << 63},
	} {
		if y := shift.Turn(c.x, c.n); y != c.want {
			t.Errorf("Turn(%#x, %d) = %#x, want %#x", c.x, c.n, y, c.want)
		}
	}
	for _, x := range someWords() {
		for _, n := range someCounts() {
			if y, want := shift.Turn(x, int(n)), turnBitByBit(x, int(n)); y != want {
				t.Fatalf("Turn(%#x, %d) = %#x, want %#x", x, n, y, want)
			}
		}
	}
}

// P1.3
func TestSigHash(t *testing.T) {
	cells := []int{-1, -2, math.MinInt, math.MaxInt, 1 << 40}
	for cell := range api.MaxCells {
		cells = append(cells, cell)
	}
	for _, cell := range cells {
		want := int(mixByBig(uint64(int64(cell))) / (1 << 55))
		if k := shift.SigHash(cell); k != want || k < 0 || k >= api.SigBits {
			t.Errorf("SigHash(%d) = %d, want %d", cell, k, want)
		}
	}
	for cell, want := range []int{0, 360, 117, 22, 143, 428} {
		if k := shift.SigHash(cell); k != want {
			t.Errorf("SigHash(%d) = %d, want %d", cell, k, want)
		}
	}
}

// P1.4
func TestHead(t *testing.T) {
	for _, c := range []struct {
		stamp int64
		done  bool
		want  int64
	}{
		{5, true, 11},
		{5, false, 10},
		{0, true, 1},
		{0, false, 0},
		{-1, true, -1},
		{-1, false, -2},
		{api.MaxStamp, true, 1<<41 + 1},
		{1<<62 - 1, true, math.MaxInt64},
		{-1 << 62, false, math.MinInt64},
		{1 << 62, false, math.MinInt64},
		{math.MaxInt64, true, -1},
		{math.MinInt64, false, 0},
		{math.MinInt64, true, 1},
	} {
		if h := shift.Head(c.stamp, c.done); h != c.want {
			t.Errorf("Head(%d, %t) = %d, want %d", c.stamp, c.done, h, c.want)
		}
	}
}

// P1.4
func TestStampAndDone(t *testing.T) {
	for _, c := range []struct {
		head, stamp int64
		done        bool
	}{
		{11, 5, true},
		{10, 5, false},
		{1, 0, true},
		{0, 0, false},
		{-1, -1, true},
		{-2, -1, false},
		{-3, -2, true},
		{math.MaxInt64, 1<<62 - 1, true},
		{math.MinInt64, -1 << 62, false},
		{math.MinInt64 + 1, -1 << 62, true},
	} {
		if s := shift.Stamp(c.head); s != c.stamp {
			t.Errorf("Stamp(%d) = %d, want %d", c.head, s, c.stamp)
		}
		if d := shift.Done(c.head); d != c.done {
			t.Errorf("Done(%d) = %t, want %t", c.head, d, c.done)
		}
	}
}

// narrowByBig: x as a number of so many bits, with its sign or without.
func narrowByBig(x, bits int64, withSign bool) int64 {
	n := big.NewInt(x)
	if withSign {
		return signed(n, bits)
	}
	return modulo(n, powerOfTwo(bits)).Int64()
}

// P1.5
func TestNarrow(t *testing.T) {
	for _, c := range []struct {
		x    int64
		kind int
		want int64
	}{
		{300, 0, 44},
		{127, 0, 127},
		{128, 0, -128},
		{1 << 15, 1, -1 << 15},
		{1 << 31, 2, -1 << 31},
		{300, 3, 44},
		{-1, 3, 255},
		{-1, 4, 65535},
		{-1, 5, 4294967295},
		{1 << 32, 5, 0},
	} {
		if y, e := shift.Narrow(c.x, c.kind); y != c.want || e != api.OK {
			t.Errorf("Narrow(%d, %d) = %d, %d, want %d", c.x, c.kind, y, e, c.want)
		}
	}
	for _, x := range someNumbers() {
		for kind, as := range []struct {
			bits     int64
			withSign bool
		}{{8, true}, {16, true}, {32, true}, {8, false}, {16, false}, {32, false}} {
			want := narrowByBig(x, as.bits, as.withSign)
			if y, e := shift.Narrow(x, kind); y != want || e != api.OK {
				t.Errorf("Narrow(%d, %d) = %d, %d, want %d", x, kind, y, e, want)
			}
		}
	}
}

// P1.5
func TestNarrowRefusesOtherKinds(t *testing.T) {
	for _, kind := range []int{6, 7, 8, 256, -1, -2, math.MinInt, math.MaxInt} {
		for _, x := range []int64{0, 1, -1, math.MaxInt64} {
			if y, e := shift.Narrow(x, kind); y != 0 || e != api.ErrArg {
				t.Errorf("Narrow(%d, %d) = %d, %d, want ErrArg", x, kind, y, e)
			}
		}
	}
}

// P1.6
func TestShiftExamples(t *testing.T) {
	for _, c := range []struct {
		name            string
		got, want, x, n int64
	}{
		{"Shl", shift.Shl(1, 65), 2, 1, 65},
		{"Shl", shift.Shl(1, -1), math.MinInt64, 1, -1},
		{"Shl", shift.Shl(-7, 64), -7, -7, 64},
		{"Shr", shift.Shr(-5, 1), -3, -5, 1},
		{"Shr", shift.Shr(-1, 63), -1, -1, 63},
		{"Shr", shift.Shr(5, 65), 2, 5, 65},
		{"Ushr", shift.Ushr(-1, 63), 1, -1, 63},
		{"Ushr", shift.Ushr(-1, 64), -1, -1, 64},
		{"Ushr", shift.Ushr(-1, 1), math.MaxInt64, -1, 1},
	} {
		if c.got != c.want {
			t.Errorf("%s(%d, %d) = %d, want %d", c.name, c.x, c.n, c.got, c.want)
		}
	}
}

// P1.6
func TestShifts(t *testing.T) {
	for _, n := range someCounts() {
		power := powerOfTwo(modulo(big.NewInt(n), big.NewInt(64)).Int64())
		for _, x := range someNumbers() {
			whole, word := big.NewInt(x), new(big.Int).SetUint64(uint64(x))
			if y, want := shift.Shl(x, n), signed(new(big.Int).Mul(whole, power), 64); y != want {
				t.Fatalf("Shl(%d, %d) = %d, want %d", x, n, y, want)
			}
			// Div of a positive divisor goes downwards, also below 0.
			if y, want := shift.Shr(x, n), new(big.Int).Div(whole, power).Int64(); y != want {
				t.Fatalf("Shr(%d, %d) = %d, want %d", x, n, y, want)
			}
			if y, want := shift.Ushr(x, n), signed(new(big.Int).Div(word, power), 64); y != want {
				t.Fatalf("Ushr(%d, %d) = %d, want %d", x, n, y, want)
			}
		}
	}
}

// wrongSizes are sizes in which no number is laid down.
func wrongSizes() []int {
	return []int{0, 3, 5, 6, 7, 9, 16, 32, 64, -1, -2, -4, -8, math.MinInt, math.MaxInt}
}

// P1.7
func TestLay(t *testing.T) {
	for _, c := range []struct {
		x    int64
		size int
		want string
	}{
		{258, 2, "\x02\x01"},
		{-1, 1, "\xff"},
		{258, 1, "\x02"},
		{-2, 4, "\xfe\xff\xff\xff"},
		{1, 8, "\x01\x00\x00\x00\x00\x00\x00\x00"},
		{0x0102030405060708, 8, "\x08\x07\x06\x05\x04\x03\x02\x01"},
		{0x0102030405060708, 4, "\x08\x07\x06\x05"},
		{math.MinInt64, 8, "\x00\x00\x00\x00\x00\x00\x00\x80"},
		{0, 4, "\x00\x00\x00\x00"},
	} {
		if s, e := shift.Lay(c.x, c.size); s != c.want || e != api.OK {
			t.Errorf("Lay(%d, %d) = %q, %d, want %q", c.x, c.size, s, e, c.want)
		}
	}
	for _, size := range wrongSizes() {
		if s, e := shift.Lay(258, size); s != "" || e != api.ErrArg {
			t.Errorf("Lay(258, %d) = %q, %d, want ErrArg", size, s, e)
		}
	}
}

// P1.7
func TestTake(t *testing.T) {
	for _, c := range []struct {
		s    string
		size int
		want int64
	}{
		{"\xff\xff", 2, -1},
		{"\x00\x01\x07", 2, 256},
		{"\x80", 1, -128},
		{"\x7f\xff", 1, 127},
		{"\xff\x7f", 2, 32767},
		{"\x00\x80", 2, -32768},
		{"\x00\x00\x00\x80", 4, -1 << 31},
		{"\xff\xff\xff\x7f\xff", 4, 1<<31 - 1},
		{"\x08\x07\x06\x05\x04\x03\x02\x01", 8, 0x0102030405060708},
		{"\x00\x00\x00\x00\x00\x00\x00\x80", 8, math.MinInt64},
		{"\xff\xff\xff\xff\xff\xff\xff\x7f\xff", 8, math.MaxInt64},
	} {
		if y, e := shift.Take(c.s, c.size); y != c.want || e != api.OK {
			t.Errorf("Take(%q, %d) = %d, %d, want %d", c.s, c.size, y, e, c.want)
		}
	}
}

// P1.7
func TestTakeRefuses(t *testing.T) {
	const long = "0123456789abcdef0123456789abcdef0123456789abcdef0123456789abcdef"
	for _, size := range wrongSizes() {
		for _, s := range []string{"", "\x01", long} {
			if y, e := shift.Take(s, size); y != 0 || e != api.ErrArg {
				t.Errorf("Take(%q, %d) = %d, %d, want ErrArg", s, size, y, e)
			}
		}
	}
	for _, size := range []int{1, 2, 4, 8} {
		for n := range size {
			if y, e := shift.Take(long[:n], size); y != 0 || e != api.ErrArg {
				t.Errorf("Take(%q, %d) = %d, %d, want ErrArg", long[:n], size, y, e)
			}
		}
		if _, e := shift.Take(long[:size], size); e != api.OK {
			t.Errorf("Take of just %d bytes: %d", size, e)
		}
	}
}

// inverse is what an odd multiplier is undone by, modulo 2^64.
func inverse(odd uint64) uint64 {
	y := odd
	for range 6 {
		y *= 2 - odd*y
	}
	return y
}

// unmix undoes Mix: if it does so everywhere, no two words are mixed into one.
func unmix(x uint64) uint64 {
	x ^= x >> 33
	x *= inverse(0xc4ceb9fe1a85ec53)
	x ^= x >> 33
	x *= inverse(0xff51afd7ed558ccd)
	return x ^ x>>33
}

// P1.8
func TestMixCanBeUndone(t *testing.T) {
	from := map[uint64]uint64{}
	words := someWords()
	for x := range uint64(1 << 14) {
		words = append(words, x)
	}
	for _, x := range words {
		y := shift.Mix(x)
		if back := unmix(y); back != x {
			t.Fatalf("Mix(%#x) = %#x, which comes of %#x", x, y, back)
		}
		if other, ok := from[y]; ok && other != x {
			t.Fatalf("Mix(%#x) = Mix(%#x)", x, other)
		}
		from[y] = x
	}
}

// P1.8
func TestTurnThereAndBack(t *testing.T) {
	for _, x := range someWords() {
		for _, n := range someCounts() {
			if n == math.MinInt64 {
				continue
			}
			if y := shift.Turn(shift.Turn(x, int(n)), int(-n)); y != x {
				t.Fatalf("Turn(Turn(%#x, %d), %d) = %#x", x, n, -n, y)
			}
		}
	}
}

// P1.8
func TestStampOfHead(t *testing.T) {
	for _, x := range append(someNumbers(), math.MinInt64, math.MaxInt64) {
		// x >> 1 goes through the whole range in which a stamp comes back.
		stamp := x >> 1
		for _, done := range []bool{false, true} {
			head := shift.Head(stamp, done)
			if s, d := shift.Stamp(head), shift.Done(head); s != stamp || d != done {
				t.Errorf("Head(%d, %t) = %d: stamp %d, done %t", stamp, done, head, s, d)
			}
		}
	}
}

// P1.8
func TestTakeOfLay(t *testing.T) {
	for _, size := range []int{1, 2, 4, 8} {
		for _, x := range someNumbers() {
			x >>= 64 - 8*size
			s, e := shift.Lay(x, size)
			if e != api.OK || len(s) != size {
				t.Fatalf("Lay(%d, %d) = %q, %d", x, size, s, e)
			}
			if y, e := shift.Take(s+"\xff\x00", size); y != x || e != api.OK {
				t.Errorf("Take(Lay(%d, %d)) = %d, %d", x, size, y, e)
			}
		}
	}
}
