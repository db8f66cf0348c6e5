package code_test

import (
	"encoding/binary"
	"math"
	"slices"
	"strings"
	"testing"

	"carousel/api"
	"carousel/code"
)

// form is what the chapter's table says of an instruction: how many bytes its operand has, and from where to where it goes.
type form struct {
	size        int
	least, most int64
}

// forms are the chapter's rows, in the order of their codes, from 0 to 40.
func forms() []form {
	var (
		none   = form{0, 0, 0}
		int8s  = form{1, -128, 127}
		int16s = form{2, -32768, 32767}
		int64s = form{8, math.MinInt64, math.MaxInt64}
		uint8s = form{1, 0, 255}
		uint16 = form{2, 0, 65535}
		conv   = form{1, 0, 5}
	)
	all := []form{none, int8s, int16s, int64s}
	for range 19 { // dup to ult
		all = append(all, none)
	}
	all = append(all, conv, int16s, int16s, uint16, none, uint8s, none, none, none, none)
	for range 8 { // cadd to cnext
		all = append(all, uint8s)
	}
	return all
}

// bytesOf is an instruction's bytes, as the chapter's first lines say: the code, then the operand, the lowest byte first.
func bytesOf(op api.Op, size int) string {
	var word [8]byte
	binary.LittleEndian.PutUint64(word[:], uint64(op.Operand))
	return string([]byte{byte(op.Code)}) + string(word[:size])
}

// operandsOf are the least and the greatest operand of a form, their neighbours, and some between, all inside.
func operandsOf(f form) []int64 {
	var all []int64
	for _, x := range []int64{
		f.least, f.least + 1, f.most - 1, f.most, -1, 0, 1, 2, 3, 4, 5, 6, 7, 127, 128, 255, 256, 258, -2, -127, -128, -129, 300,
		0x7ffe, 0x7fff, 0x8000, 0x8001, -0x7fff, -0x8000, 0x0123456789abcdef, -0x0123456789abcdef, math.MaxUint32, 1 << 32,
	} {
		if x >= f.least && x <= f.most && !slices.Contains(all, x) {
			all = append(all, x)
		}
	}
	return all
}

// sample is an instruction, and its bytes as the chapter has them.
type sample struct {
	op    api.Op
	bytes string
}

// samples are instructions of all codes, with the operands of operandsOf.
func samples() []sample {
	var all []sample
	for c, f := range forms() {
		for _, x := range operandsOf(f) {
			op := api.Op{Code: c, Operand: x}
			all = append(all, sample{op, bytesOf(op, f.size)})
		}
	}
	return all
}

// strewn gives numbers that lie about, always the same ones.
type strewn uint64

func (s *strewn) below(n int) int {
	*s = *s*6364136223846793005 + 1442695040888963407
	return int(uint64(*s) >> 33 % uint64(n))
}

// program is some instructions that lie about, and their bytes.
func (s *strewn) program(most int) ([]api.Op, string) {
	all := samples()
	var l []api.Op
	var text strings.Builder
	for range s.below(most + 1) {
		one := all[s.below(len(all))]
		l = append(l, one.op)
		text.WriteString(one.bytes)
	}
	return l, text.String()
}

func wantAt(t *testing.T, s string, at int, op api.Op, size int) {
	t.Helper()
	o, n, why := code.At(s, at)
	if o != op || n != size || why != api.OK {
		t.Errorf("At(%x, %d) = %v %d %d, want %v %d 0", s, at, o, n, why, op, size)
	}
}

func wantNothingAt(t *testing.T, s string, at int) {
	t.Helper()
	if o, n, why := code.At(s, at); o != (api.Op{}) || n != 0 || why != api.ErrCode {
		t.Errorf("At(%x, %d) = %v %d %d, want ErrCode and zero values", s, at, o, n, why)
	}
}

func wantBytes(t *testing.T, l []api.Op, want string) {
	t.Helper()
	if s, why, at := code.Encode(l); s != want || why != api.OK || at != 0 {
		t.Errorf("Encode(%v) = %x %d %d, want %x 0 0", l, s, why, at, want)
	}
}

func wantUnlaid(t *testing.T, l []api.Op, why api.Errno, at int) {
	t.Helper()
	if s, e, k := code.Encode(l); s != "" || e != why || k != at {
		t.Errorf("Encode(%v) = %x %d %d, want nothing, %d at %d", l, s, e, k, why, at)
	}
}

func wantOps(t *testing.T, s string, want []api.Op) {
	t.Helper()
	if l, why, at := code.Decode(s); !slices.Equal(l, want) || why != api.OK || at != 0 {
		t.Errorf("Decode(%x) = %v %d %d, want %v 0 0", s, l, why, at, want)
	}
}

func wantUnread(t *testing.T, s string, why api.Errno, at int) {
	t.Helper()
	if l, e, k := code.Decode(s); len(l) != 0 || e != why || k != at {
		t.Errorf("Decode(%x) = %v %d %d, want nothing, %d at %d", s, l, e, k, why, at)
	}
}

// The chapter's table: each word's code is that of api.
func TestCodesOfTheTable(t *testing.T) {
	codes := []int{
		api.OpCommit, api.OpPush8, api.OpPush16, api.OpPush64, api.OpDup, api.OpDrop, api.OpSwap, api.OpOver,
		api.OpAdd, api.OpSub, api.OpMul, api.OpDiv, api.OpRem, api.OpAnd, api.OpOr, api.OpXor, api.OpNot,
		api.OpShl, api.OpShr, api.OpUshr, api.OpEq, api.OpLt, api.OpUlt, api.OpConv, api.OpJump, api.OpJumpz,
		api.OpCall, api.OpRet, api.OpArg, api.OpTell, api.OpAbort, api.OpLoad, api.OpStore,
	}
	for call := api.CallAdd; call <= api.CallNext; call++ {
		codes = append(codes, api.OpAsk+call)
	}
	if len(codes) != len(forms()) {
		t.Fatalf("%d codes, and %d rows", len(codes), len(forms()))
	}
	for i, c := range codes {
		if c != i {
			t.Errorf("the code %d stands in the row %d", c, i)
		}
	}
}

// P13.1: the chapter's examples.
func TestAtExamples(t *testing.T) {
	s := "\x01\xff\x00"
	wantAt(t, s, 0, api.Op{Code: api.OpPush8, Operand: -1}, 2)
	wantAt(t, s, 2, api.Op{Code: api.OpCommit}, 1)
	wantNothingAt(t, s, 1)
	wantNothingAt(t, s, 3)
	wantNothingAt(t, s, -1)
	wantNothingAt(t, "\x02\x01", 0)
	wantNothingAt(t, "\x17\x06", 0)
	wantAt(t, "\x17\x05", 0, api.Op{Code: api.OpConv, Operand: 5}, 2)
}

// P13.1: each opcode, with the least and the greatest operand and others.
func TestAtEachInstruction(t *testing.T) {
	for _, one := range samples() {
		wantAt(t, one.bytes, 0, one.op, len(one.bytes))
	}
}

// P13.1: each byte behind each opcode that has an operand of one byte.
func TestAtEachSmallOperand(t *testing.T) {
	for c, f := range forms() {
		if f.size != 1 {
			continue
		}
		for b := range 256 {
			number := int64(b)
			if f.least < 0 {
				number = int64(int8(b))
			}
			s := string([]byte{byte(c), byte(b)})
			if number > f.most {
				wantNothingAt(t, s, 0)
			} else {
				wantAt(t, s, 0, api.Op{Code: c, Operand: number}, 2)
			}
		}
	}
}

// P13.1: each operand of two bytes.
func TestAtEachOperandOfTwoBytes(t *testing.T) {
	for c, f := range forms() {
		if f.size != 2 {
			continue
		}
		for b := range 1 << 16 {
			number := int64(b)
			if f.least < 0 {
				number = int64(int16(b))
			}
			wantAt(t, string([]byte{byte(c), byte(b), byte(b >> 8)}), 0, api.Op{Code: c, Operand: number}, 3)
		}
	}
}

// P13.1: no instruction stands ahead of the text, nor behind its end.
func TestAtNoPlace(t *testing.T) {
	for _, s := range []string{"", "\x00", "\x00\x00\x00", strings.Repeat("\x00", 600)} {
		for _, at := range []int{math.MinInt, math.MinInt + 1, -1 << 32, -2, -1, len(s), len(s) + 1, len(s) + 255, 1 << 32, math.MaxInt - 1, math.MaxInt} {
			wantNothingAt(t, s, at)
		}
	}
	// Of their low bits alone these places would be inside.
	for _, at := range []int{1 << 32, 1<<32 + 1, 1<<31 + 1, 256, 1 << 16, -1<<32 + 1} {
		wantNothingAt(t, "\x00\x00\x00", at)
	}
}

// P13.1: bytes that are no opcode, whatever stands behind them.
func TestAtNoOpcode(t *testing.T) {
	for b := 41; b < 256; b++ {
		for _, behind := range []string{"", "\x00", strings.Repeat("\x00", 9), strings.Repeat("\xff", 9)} {
			wantNothingAt(t, string([]byte{byte(b)})+behind, 0)
		}
	}
}

// P13.1: an operand that is cut off, by each number of bytes.
func TestAtOperandCutOff(t *testing.T) {
	for _, one := range samples() {
		for n := 1; n < len(one.bytes); n++ {
			wantNothingAt(t, one.bytes[:n], 0)
			wantNothingAt(t, "\x04\x04"+one.bytes[:n], 2)
		}
	}
}

// P13.1: the text may be longer than MaxCode, and the instruction stand behind that.
func TestAtInALongText(t *testing.T) {
	s := strings.Repeat("\x04", 70000) + "\x02\xfe\xff"
	wantAt(t, s, 69999, api.Op{Code: api.OpDup}, 1)
	wantAt(t, s, 70000, api.Op{Code: api.OpPush16, Operand: -2}, 3)
	wantNothingAt(t, s, 70003)
}

// P13.5: an instruction hangs on its own bytes alone; so does it that none stands there, but for the end.
func TestAtHangsOnItsOwnBytes(t *testing.T) {
	around := []string{"", "\x00", "\xff", "\x01", "\x03", "\x17\x06", "\x29", "\x80\x00\xff\x7f", strings.Repeat("\x03\xff", 300)}
	for _, one := range samples() {
		for _, ahead := range around {
			for _, behind := range around {
				wantAt(t, ahead+one.bytes+behind, len(ahead), one.op, len(one.bytes))
			}
		}
	}
	for _, none := range []string{"\x29", "\xff", "\x17\x06", "\x17\xff"} {
		for _, ahead := range around {
			for _, behind := range around {
				wantNothingAt(t, ahead+none+behind, len(ahead))
			}
		}
	}
}

// P13.2: the chapter's examples.
func TestEncodeExamples(t *testing.T) {
	wantBytes(t, []api.Op{{Code: api.OpPush16, Operand: -2}, {Code: api.OpJump, Operand: 300}, {Code: api.OpCommit}}, "\x02\xfe\xff\x18\x2c\x01\x00")
	wantUnlaid(t, []api.Op{{Code: api.OpPush8, Operand: 1}, {Code: api.OpPush8, Operand: 128}}, api.ErrRange, 1)
	wantUnlaid(t, []api.Op{{Code: api.OpDup, Operand: 1}}, api.ErrRange, 0)
	wantUnlaid(t, []api.Op{{Code: 41}}, api.ErrCode, 0)
}

// P13.2: each opcode alone, and all one behind the other.
func TestEncodeEachInstruction(t *testing.T) {
	wantBytes(t, nil, "")
	wantBytes(t, []api.Op{}, "")
	var l []api.Op
	var text string
	for c, f := range forms() {
		op := api.Op{Code: c, Operand: f.most}
		l = append(l, op)
		text += bytesOf(op, f.size)
	}
	wantBytes(t, l, text)
	for _, one := range samples() {
		wantBytes(t, []api.Op{one.op}, one.bytes)
	}
}

// P13.2: Codes that are none.
func TestEncodeNoCode(t *testing.T) {
	for _, c := range []int{math.MinInt, math.MinInt + 1, -1 << 32, -256, -41, -2, -1, 41, 42, 64, 127, 128, 255, 256, 257, 260, 1 << 16, 1<<31 + 4, 1 << 32, 1<<32 + 4, math.MaxInt} {
		wantUnlaid(t, []api.Op{{Code: c}}, api.ErrCode, 0)
		wantUnlaid(t, []api.Op{{Code: 4}, {Code: 0}, {Code: c}, {Code: 4}}, api.ErrCode, 2)
	}
}

// outside are numbers that a form has not.
func outside(f form) []int64 {
	var all []int64
	for _, x := range []int64{f.least - 1, f.least - 2, f.most + 1, f.most + 2, -1, 1, 6, 255, 256, 256 + 5, 65535, 65536, 65536 + 5, 1 << 32, 1<<32 + 1, -1 << 32, math.MinInt64, math.MaxInt64, math.MinInt64 + 1} {
		if x < f.least || x > f.most {
			all = append(all, x)
		}
	}
	return all
}

// P13.2: Operands out of their range, or of an instruction that has none.
func TestEncodeOutOfRange(t *testing.T) {
	for c, f := range forms() {
		for _, x := range outside(f) {
			wantUnlaid(t, []api.Op{{Code: c, Operand: x}}, api.ErrRange, 0)
			wantUnlaid(t, []api.Op{{Code: 1, Operand: 127}, {Code: c, Operand: x}, {Code: 0}}, api.ErrRange, 1)
		}
	}
}

// P13.2: of several instructions that have an error the first one is told; of several errors of one the one that is named first.
func TestEncodeFirstError(t *testing.T) {
	wantUnlaid(t, []api.Op{{Code: 4, Operand: 1}, {Code: 41}}, api.ErrRange, 0)
	wantUnlaid(t, []api.Op{{Code: 41}, {Code: 4, Operand: 1}}, api.ErrCode, 0)
	wantUnlaid(t, []api.Op{{Code: 0}, {Code: 4, Operand: 1}, {Code: -1, Operand: 7}}, api.ErrRange, 1)
	wantUnlaid(t, []api.Op{{Code: 41, Operand: 1}}, api.ErrCode, 0)
	wantUnlaid(t, []api.Op{{Code: -1, Operand: math.MinInt64}}, api.ErrCode, 0)

	full := slices.Repeat([]api.Op{{Code: api.OpDup}}, api.MaxCode)
	wantUnlaid(t, append(slices.Clone(full), api.Op{Code: 41, Operand: 1}), api.ErrCode, 512)
	wantUnlaid(t, append(slices.Clone(full), api.Op{Code: 4, Operand: 1}), api.ErrRange, 512)
	wantUnlaid(t, append(slices.Clone(full), api.Op{Code: 4}, api.Op{Code: 41}), api.ErrFull, 512)
	wantUnlaid(t, append(slices.Clone(full), api.Op{Code: 4}, api.Op{Code: 4, Operand: 1}), api.ErrFull, 512)
	early := slices.Clone(full)
	early[17] = api.Op{Code: 23, Operand: 6}
	wantUnlaid(t, append(early, api.Op{Code: 4}), api.ErrRange, 17)
}

// P13.2: just MaxCode bytes are laid; the instruction with which there are more is told.
func TestEncodeMostBytes(t *testing.T) {
	full := slices.Repeat([]api.Op{{Code: api.OpDup}}, api.MaxCode)
	wantBytes(t, full, strings.Repeat("\x04", 512))
	wantUnlaid(t, append(slices.Clone(full), api.Op{}), api.ErrFull, 512)
	wantUnlaid(t, slices.Repeat(full, 3), api.ErrFull, 512)

	for c, f := range forms() {
		last := api.Op{Code: c, Operand: f.most}
		// With one byte less ahead of it the last instruction ends at just MaxCode.
		for spare := range f.size + 3 {
			ahead := full[:api.MaxCode-spare]
			l := append(slices.Clone(ahead), last)
			if spare < 1+f.size {
				wantUnlaid(t, l, api.ErrFull, len(ahead))
			} else {
				wantBytes(t, l, strings.Repeat("\x04", len(ahead))+bytesOf(last, f.size))
			}
		}
	}
	wide := slices.Repeat([]api.Op{{Code: api.OpPush64, Operand: -1}}, 57)
	wantUnlaid(t, wide, api.ErrFull, 56)
	// One behind it would fit, but the first error is told.
	wantUnlaid(t, append(wide, api.Op{}), api.ErrFull, 56)
}

// P13.3: the chapter's examples.
func TestDecodeExamples(t *testing.T) {
	wantUnread(t, "\x04\x29", api.ErrCode, 1)
	wantOps(t, "", nil)
	wantOps(t, "\x21\x07\x00", []api.Op{{Code: api.OpAsk + api.CallAdd, Operand: 7}, {Code: api.OpCommit}})
}

// P13.3: each instruction alone, and between others.
func TestDecodeEachInstruction(t *testing.T) {
	for _, one := range samples() {
		wantOps(t, one.bytes, []api.Op{one.op})
		wantOps(t, "\x02\xfe\xff"+one.bytes+"\x00", []api.Op{{Code: api.OpPush16, Operand: -2}, one.op, {}})
	}
}

// P13.3: just MaxCode bytes are read; of more none, whatever they are.
func TestDecodeMostBytes(t *testing.T) {
	wantOps(t, strings.Repeat("\x04", 512), slices.Repeat([]api.Op{{Code: api.OpDup}}, 512))
	wide := strings.Repeat("\x03\x01\x00\x00\x00\x00\x00\x00\x80", 56) + "\x1a\xff\xff\x00\x00\x00\x00\x00"
	want := slices.Repeat([]api.Op{{Code: api.OpPush64, Operand: math.MinInt64 + 1}}, 56)
	want = append(want, api.Op{Code: api.OpCall, Operand: 65535})
	wantOps(t, wide, append(want, slices.Repeat([]api.Op{{}}, 5)...))

	wantUnread(t, strings.Repeat("\x04", 513), api.ErrFull, 0)
	wantUnread(t, "\x29"+strings.Repeat("\x04", 512), api.ErrFull, 0)
	wantUnread(t, strings.Repeat("\x04", 512)+"\x29", api.ErrFull, 0)
	wantUnread(t, strings.Repeat("\xff", 70000), api.ErrFull, 0)
	wantUnread(t, strings.Repeat("\x04", 511)+"\x29", api.ErrCode, 511)
	wantUnread(t, strings.Repeat("\x04", 511)+"\x01", api.ErrCode, 511)
}

// P13.3: the first place at which none stands is told, of those to which one comes.
func TestDecodeFirstPlace(t *testing.T) {
	wantUnread(t, "\x29", api.ErrCode, 0)
	wantUnread(t, "\x29\x29\x04", api.ErrCode, 0)
	wantUnread(t, "\x01\x29\xff\x29", api.ErrCode, 2) // the first 29 is an operand
	wantUnread(t, "\x02\x29\x29\x17\x06\x29", api.ErrCode, 3)
	wantUnread(t, "\x00\x17", api.ErrCode, 1)
	wantUnread(t, "\x17\x05\x17\x06", api.ErrCode, 2)
	wantUnread(t, "\x00\x29\x00", api.ErrCode, 1) // behind a commit, too
	for _, one := range samples() {
		for n := 1; n < len(one.bytes); n++ {
			wantUnread(t, one.bytes[:n], api.ErrCode, 0)
			wantUnread(t, one.bytes+"\x04"+one.bytes[:n], api.ErrCode, len(one.bytes)+1)
		}
	}
	for b := 41; b < 256; b++ {
		wantUnread(t, "\x03\xff\xff\xff\xff\xff\xff\xff\xff"+string([]byte{byte(b)})+"\x00", api.ErrCode, 9)
	}
}

// decodedByAt is what Decode should answer, told by At.
func decodedByAt(s string) ([]api.Op, api.Errno, int) {
	if len(s) > 512 {
		return nil, api.ErrFull, 0
	}
	var l []api.Op
	at := 0
	for at != len(s) {
		op, n, why := code.At(s, at)
		if why != api.OK {
			return nil, api.ErrCode, at
		}
		l, at = append(l, op), at+n
	}
	return l, api.OK, 0
}

// P13.3: over texts that lie about Decode goes from instruction to instruction.
func TestDecodeGoesByAt(t *testing.T) {
	s := strewn(3)
	for range 4000 {
		text := make([]byte, s.below(40))
		for i := range text {
			text[i] = byte(s.below(44))
		}
		want, why, place := decodedByAt(string(text))
		l, e, k := code.Decode(string(text))
		if !slices.Equal(l, want) || e != why || k != place {
			t.Fatalf("Decode(%x) = %v %d %d, want %v %d %d", text, l, e, k, want, why, place)
		}
	}
}

// P13.4: what Encode gives Decode takes, and tells the same instructions.
func TestEncodeThenDecode(t *testing.T) {
	s := strewn(1)
	for range 3000 {
		l, text := s.program(80)
		if len(text) > api.MaxCode {
			if got, why, _ := code.Encode(l); got != "" || why != api.ErrFull {
				t.Fatalf("Encode of %d bytes = %x %d", len(text), got, why)
			}
			continue
		}
		wantBytes(t, l, text)
		wantOps(t, text, l)
	}
}

// P13.4: what Decode takes Encode gives again.
func TestDecodeThenEncode(t *testing.T) {
	s := strewn(2)
	taken := 0
	for range 20000 {
		text := make([]byte, s.below(12))
		for i := range text {
			text[i] = byte(s.below(41))
		}
		l, why, _ := code.Decode(string(text))
		if why != api.OK {
			continue
		}
		taken++
		wantBytes(t, l, string(text))
	}
	if taken < 2000 {
		t.Errorf("only %d texts were taken", taken)
	}
}

// R3: Encode writes nothing into its list, nor into the list's spare room, and keeps nothing of it.
func TestEncodeLeavesItsList(t *testing.T) {
	room := make([]api.Op, 20)
	for i := range room {
		room[i] = api.Op{Code: i, Operand: 0}
	}
	room[3].Operand = 77
	was := slices.Clone(room)
	s, _, _ := code.Encode(room[:5])
	if !slices.Equal(room, was) {
		t.Errorf("the list is %v now", room)
	}
	copyOf := strings.Clone(s)
	for i := range room {
		room[i] = api.Op{Code: 99, Operand: -1}
	}
	if s != copyOf {
		t.Errorf("what was given became %x", s)
	}
	wantBytes(t, was[:5], copyOf)

	room = []api.Op{{Code: 4}, {Code: 41}, {Code: 4, Operand: 1}, {Code: 7}}
	was = slices.Clone(room)
	code.Encode(room[:3])
	if !slices.Equal(room, was) {
		t.Errorf("with an error the list is %v now", room)
	}
}

// R3: what Decode gives is new memory each time, its spare room too.
func TestDecodeGivesNewMemory(t *testing.T) {
	text := "\x21\x07\x04\x01\xff\x00"
	want := []api.Op{{Code: 33, Operand: 7}, {Code: 4}, {Code: 1, Operand: -1}, {}}
	first, _, _ := code.Decode(text)
	second, _, _ := code.Decode(text)
	spoil := first[:cap(first)]
	for i := range spoil {
		spoil[i] = api.Op{Code: -5, Operand: -5}
	}
	if !slices.Equal(second, want) {
		t.Errorf("another answer became %v", second)
	}
	for i, op := range second[:cap(second)][len(second):] {
		if op == (api.Op{Code: -5, Operand: -5}) {
			t.Errorf("the spare room %d is shared", i)
		}
	}
	wantOps(t, text, want)
}

// R4: the answers hang on the arguments alone, not on calls ahead, refused ones neither.
func TestSameAgain(t *testing.T) {
	for range 3 {
		wantUnlaid(t, []api.Op{{Code: 3, Operand: 5}, {Code: 41}}, api.ErrCode, 1)
		wantUnread(t, "\x03\x05\x04", api.ErrCode, 0)
		wantNothingAt(t, "\x03", 0)
		wantBytes(t, []api.Op{{Code: 3, Operand: 5}}, "\x03\x05\x00\x00\x00\x00\x00\x00\x00")
		wantOps(t, "\x03\x05\x00\x00\x00\x00\x00\x00\x00", []api.Op{{Code: 3, Operand: 5}})
		wantAt(t, "\x03\x05\x00\x00\x00\x00\x00\x00\x00", 0, api.Op{Code: 3, Operand: 5}, 9)
	}
}
