package asm_test

import (
	"encoding/binary"
	"fmt"
	"math"
	"strings"
	"testing"

	"carousel/api"
	"carousel/asm"
)

// row is what chapter 13's table says of an instruction: its word, how many bytes its operand has, and from where to where it goes.
type row struct {
	word        string
	size        int
	least, most int64
}

// rows are the chapter's rows, in the order of their codes, from 0 to 40.
var rows = makeRows()

func makeRows() []row {
	var all []row
	add := func(size int, least, most int64, list string) {
		for _, word := range strings.Fields(list) {
			all = append(all, row{word, size, least, most})
		}
	}
	add(0, 0, 0, "commit")
	add(1, -128, 127, "push8")
	add(2, -32768, 32767, "push16")
	add(8, math.MinInt64, math.MaxInt64, "push64")
	add(0, 0, 0, "dup drop swap over add sub mul div rem and or xor not shl shr ushr eq lt ult")
	add(1, 0, 5, "conv")
	add(2, -32768, 32767, "jump jumpz")
	add(2, 0, 65535, "call")
	add(0, 0, 0, "ret")
	add(1, 0, 255, "arg")
	add(0, 0, 0, "tell abort load store")
	add(1, 0, 255, "cadd cget cput cdel clen chas cleast cnext")
	return all
}

// named: may the operand be a name?
func (r row) named() bool {
	return r.word == "jump" || r.word == "jumpz" || r.word == "call"
}

// bytesOf is the instruction of a code with an operand, as chapter 13 lays it.
func bytesOf(opcode int, operand int64) string {
	var word [8]byte
	binary.LittleEndian.PutUint64(word[:], uint64(operand))
	return string([]byte{byte(opcode)}) + string(word[:rows[opcode].size])
}

// codeOf is the code of a word.
func codeOf(word string) int {
	for c, r := range rows {
		if r.word == word {
			return c
		}
	}
	return -1
}

// strewn gives numbers that lie about, always the same ones.
type strewn uint64

func (s *strewn) below(n int) int {
	*s = *s*6364136223846793005 + 1442695040888963407
	return int(uint64(*s) >> 33 % uint64(n))
}

func (s *strewn) of(list ...string) string {
	return list[s.below(len(list))]
}

func wantBytes(t *testing.T, text, want string) {
	t.Helper()
	if s, why, at := asm.Parse(text); s != want || why != api.OK || at != 0 {
		t.Errorf("Parse(%q) = %x %d %d, want %x 0 0", text, s, why, at, want)
	}
}

func wantWrong(t *testing.T, text string, why api.Errno, at int) {
	t.Helper()
	if s, e, k := asm.Parse(text); s != "" || e != why || k != at {
		t.Errorf("Parse(%q) = %x %d %d, want nothing, %d at %d", text, s, e, k, why, at)
	}
}

func wantText(t *testing.T, program, want string) {
	t.Helper()
	if s, why := asm.Print(program); s != want || why != api.OK {
		t.Errorf("Print(%x) = %q %d, want %q 0", program, s, why, want)
	}
}

func wantNoText(t *testing.T, program string, why api.Errno) {
	t.Helper()
	if s, e := asm.Print(program); s != "" || e != why {
		t.Errorf("Print(%x) = %q %d, want nothing, %d", program, s, e, why)
	}
}

// P14.1: the chapter's examples.
func TestParseExamples(t *testing.T) {
	wantBytes(t, "push8 5\ntell # five\n commit", "\x01\x05\x1d\x00")
	wantBytes(t, "a: jump a\njump b\nb:", "\x18\xfd\xff\x18\x00\x00")
	wantWrong(t, "push8", api.ErrText, 5)
	wantWrong(t, "push8 x", api.ErrText, 6)
	wantWrong(t, "push8 300", api.ErrRange, 6)
	wantWrong(t, "dup 1", api.ErrText, 4)
	wantWrong(t, "nop", api.ErrText, 0)
	wantWrong(t, "a: a:", api.ErrText, 3)
	wantWrong(t, "a:\na:", api.ErrName, 3)
	wantWrong(t, "call b", api.ErrName, 5)
	wantWrong(t, "1: dup", api.ErrText, 0)
	wantWrong(t, "jump 01", api.ErrText, 5)
}

// P14.1: each of chapter 13's words, with each operand at the edges of its range, and one beyond.
func TestParseEachWord(t *testing.T) {
	for c, r := range rows {
		if r.size == 0 {
			wantBytes(t, r.word, bytesOf(c, 0))
			wantBytes(t, "\t"+r.word+" \ncommit", bytesOf(c, 0)+"\x00")
			wantWrong(t, "dup\n"+r.word+" 0", api.ErrText, 5+len(r.word))
			wantWrong(t, r.word+" a", api.ErrText, 1+len(r.word))
			continue
		}
		for _, x := range []int64{r.least, r.least + 1, -1, 0, 1, 5, 77, r.most - 1, r.most} {
			if x >= r.least && x <= r.most {
				wantBytes(t, fmt.Sprintf("dup\n%s %d\ncommit\n", r.word, x), "\x04"+bytesOf(c, x)+"\x00")
			}
		}
		wantWrong(t, r.word, api.ErrText, len(r.word))
		wantWrong(t, r.word+" 0 0", api.ErrText, len(r.word)+3)
		if r.size == 8 {
			continue // no int64 is beyond
		}
		for _, x := range []int64{r.least - 1, r.most + 1, r.most + 256, r.most + 65536, r.most + 1<<32, r.least - 1<<32, math.MinInt64, math.MaxInt64} {
			wantWrong(t, fmt.Sprintf("dup\n%s %d", r.word, x), api.ErrRange, 5+len(r.word))
		}
	}
}

// P14.1: all words one behind the other.
func TestParseAllWords(t *testing.T) {
	var text, want string
	for c, r := range rows {
		text += r.word
		if r.size > 0 {
			text += fmt.Sprint(" ", r.most)
		}
		text += "\n"
		want += bytesOf(c, r.most)
	}
	wantBytes(t, text, want)
}

// P14.1: what looks like a word, and is none.
func TestParseNoWord(t *testing.T) {
	for _, word := range []string{"nop", "Dup", "DUP", "du", "dupp", "dup,", "dup;", "push", "push32", "push8,", "-", "1", "0", "_", "commit\r", "dup\x00", "\x00", "\xff", "dup\v", "\u00a0dup", "dup\u2003", "ask", "jumpz:x", "a:dup", ":a", ":dup", "cadd7"} {
		wantWrong(t, word, api.ErrText, 0)
		wantWrong(t, "dup\n "+word+" 7", api.ErrText, 5)
		wantWrong(t, "x: "+word, api.ErrText, 3)
	}
}

// P14.1: texts without an instruction, and lines that end in each way.
func TestParseLines(t *testing.T) {
	for _, text := range []string{"", "\n", "\n\n\n", " ", "\t", " \t \n\t", "#", "# dup", "#\n#", " # a: a: ## nop\n\n", "#:", "a:", "a:\nb:\n", "a: # dup"} {
		wantBytes(t, text, "")
	}
	for _, text := range []string{"dup", "dup\n", "\ndup", "\n\n dup\t\n\n", "dup#", "dup# 1", "dup #1", "#x\ndup", "\tdup\t#\tdup\tdup"} {
		wantBytes(t, text, "\x04")
	}
	wantBytes(t, "dup\ndup", "\x04\x04")
	wantBytes(t, "#dup\ndup", "\x04") // a remark ends with its line
	wantWrong(t, "dup dup", api.ErrText, 4)
	wantWrong(t, "dup\r\ndup", api.ErrText, 0) // a carriage return parts nothing
	wantBytes(t, "dup #\r\ndup", "\x04\x04")
	wantBytes(t, "push8\t-1", "\x01\xff")
	wantBytes(t, "push8 \t  -1\t ", "\x01\xff")
}

// P14.1: labels ahead of and behind what names them, on lines of their own and not.
func TestParseLabels(t *testing.T) {
	wantBytes(t, "jump e\ndup\ne: drop", "\x18\x01\x00\x04\x05")
	wantBytes(t, "dup\ns: drop\njumpz s", "\x04\x05\x19\xfc\xff")
	wantBytes(t, "dup\ns:\n# here\n\n drop\ncall s", "\x04\x05\x1a\x01\x00")
	wantBytes(t, "call e\njump e\njumpz e\ne:", "\x1a\x09\x00\x18\x03\x00\x19\x00\x00")
	wantBytes(t, "a:\nb: dup\ncall a\ncall b\njump b", "\x04\x1a\x00\x00\x1a\x00\x00\x18\xf6\xff")
	// The place behind an instruction hangs on its size; push64 has 9 bytes.
	wantBytes(t, "call e\n\tpush64 -1\ne: chas 3", "\x1a\x0c\x00\x03\xff\xff\xff\xff\xff\xff\xff\xff\x26\x03")
	wantBytes(t, "jump e\npush64 0\ne: jump e", "\x18\x09\x00\x03\x00\x00\x00\x00\x00\x00\x00\x00\x18\xfd\xff")
	// A label may be called like a word; great and small letters are not the same.
	wantBytes(t, "dup: dup\njump: jump dup\ncall jump", "\x04\x18\xfc\xff\x1a\x01\x00")
	wantBytes(t, "a: dup\nA: dup\ncall A\ncall a", "\x04\x04\x1a\x01\x00\x1a\x00\x00")
	wantBytes(t, "_:\ncall _\nL0: call L0", "\x1a\x00\x00\x1a\x03\x00")
	// A label that nothing names.
	wantBytes(t, "x: dup\ny:", "\x04")
}

// P14.1: the farthest places that a program's jumps and calls have.
func TestParseFarLabels(t *testing.T) {
	many := strings.Repeat("dup\n", 509)
	dups := strings.Repeat("\x04", 509)
	wantBytes(t, "jump e\n"+many+"e:", "\x18\xfd\x01"+dups)
	wantBytes(t, "call e\n"+many+"e:", "\x1a\x00\x02"+dups)
	wantBytes(t, "s:\n"+many+"jump s", dups+"\x18\x00\xfe")
	wantBytes(t, "s: "+many+"jumpz s\n e:", dups+"\x19\x00\xfe")
}

// P14.1: names of each kind of bytes, and of 16 and 17 of them.
func TestParseNames(t *testing.T) {
	for _, name := range []string{"a", "z", "A", "Z", "_", "_1", "a0", "z9", "A_z", "____", "L512", "m", "push8", "abcdefghijklmnop", "_123456789012345", "ABCDEFGHIJKLMNOP"} {
		wantBytes(t, name+": jump "+name, "\x18\xfd\xff")
		wantBytes(t, "call "+name+"\n\t"+name+":", "\x1a\x03\x00")
		wantWrong(t, "dup\n  jumpz "+name, api.ErrName, 12)
		wantWrong(t, name+": dup\n "+name+": nop", api.ErrName, len(name)+7)
		wantWrong(t, "push8 "+name, api.ErrText, 6) // an operand of none but three may be a name
	}
	for _, name := range []string{"", "0", "9a", "1", "-", "-a", "a-b", "a.b", "a+", "a:", ":", "a:b", "\xe4", "a\xe4", "a\u00e4", "a\x00", "a\r", "@", "[", "`a", "a{", "a/", "abcdefghijklmnopq", "_1234567890123456", strings.Repeat("a", 300)} {
		wantWrong(t, name+": dup", api.ErrText, 0)
		wantWrong(t, "x:\n\t"+name+":", api.ErrText, 4)
		if name != "" && name != "0" && name != "1" {
			wantWrong(t, "jump "+name, api.ErrText, 5)
			wantWrong(t, "call "+name, api.ErrText, 5)
		}
	}
}

// P14.1: what is no number, though it looks like one.
func TestParseNoNumber(t *testing.T) {
	for _, text := range []string{"00", "01", "-0", "-00", "-01", "+0", "+1", "+", "-", "--1", "-+1", "1-", "0x1", "0b1", "0o7", "1_0", "1e1", "1.0", "1.", ".1", "0a", "1a", "1:", "\u0661", "1\r", "1\x00", "'1'",
		"9223372036854775808", "-9223372036854775809", "18446744073709551616", "18446744073709551615", "99999999999999999999", "-99999999999999999999", "09223372036854775807", strings.Repeat("1", 400), strings.Repeat("0", 400)} {
		for _, r := range rows {
			if r.size > 0 {
				wantWrong(t, "dup\n"+r.word+" "+text+" # 1", api.ErrText, 5+len(r.word))
			}
		}
	}
	wantBytes(t, "push64 9223372036854775807", "\x03\xff\xff\xff\xff\xff\xff\xff\x7f")
	wantBytes(t, "push64 -9223372036854775808", "\x03\x00\x00\x00\x00\x00\x00\x00\x80")
}

// P14.1: an operand that lacks is told behind the last token that counts.
func TestParseOperandLacks(t *testing.T) {
	for _, r := range rows {
		if r.size == 0 {
			continue
		}
		n := len(r.word)
		for _, behind := range []string{"", " ", "\t \t", "#", "# 5", " # 5", "#5", "\n5", "  \n 5\n"} {
			wantWrong(t, r.word+behind, api.ErrText, n)
			wantWrong(t, "dup # x\n\t"+r.word+behind, api.ErrText, 9+n)
			wantWrong(t, "a:  "+r.word+behind, api.ErrText, 4+n)
		}
	}
}

// P14.1: one token more.
func TestParseOneMore(t *testing.T) {
	wantWrong(t, "dup  dup", api.ErrText, 5)
	wantWrong(t, "dup\tx:", api.ErrText, 4)
	wantWrong(t, "push8 1 2", api.ErrText, 8)
	wantWrong(t, "push8 1 2 3", api.ErrText, 8)
	wantWrong(t, "a: push8 1\t\ta", api.ErrText, 12)
	wantWrong(t, "jump a a\na:", api.ErrText, 7)
	wantWrong(t, "call 1 a", api.ErrText, 7)
	wantWrong(t, "a: commit a", api.ErrText, 10)
	wantWrong(t, "a: b: dup", api.ErrText, 3)
	wantWrong(t, "dup ; a remark", api.ErrText, 4)
}

// P14.1: just MaxCode bytes are taken; the instruction with which there are more is told.
func TestParseMostBytes(t *testing.T) {
	for c, r := range rows {
		last, operand := r.word, ""
		if r.size > 0 {
			operand = fmt.Sprint(" ", r.most)
		}
		for spare := range r.size + 3 {
			n := api.MaxCode - spare
			ahead := strings.Repeat("dup\n", n)
			text := ahead + "e: " + last + operand + "\nf: # full\n"
			if spare < 1+r.size {
				wantWrong(t, text, api.ErrFull, len(ahead)+3)
			} else {
				wantBytes(t, text, strings.Repeat("\x04", n)+bytesOf(c, r.most))
			}
			if r.named() && spare < 3 {
				wantWrong(t, ahead+last+" nowhere", api.ErrFull, len(ahead))
				wantWrong(t, ahead+last+" e\ne:", api.ErrFull, len(ahead))
			}
		}
	}
	full := strings.Repeat("dup\n", api.MaxCode)
	wantBytes(t, full, strings.Repeat("\x04", 512))
	wantBytes(t, full+"\n#\nend:\n", strings.Repeat("\x04", 512))
	wantWrong(t, full+full+full, api.ErrFull, len(full))
	wantWrong(t, strings.Repeat("push64 -1\n", 57), api.ErrFull, 560)
}

// P14.1: of two errors in one line the one that stands first in the chapter's order is told.
func TestParseFirstErrorOfALine(t *testing.T) {
	full := strings.Repeat("dup\n", api.MaxCode)
	n := len(full)
	// 1 ahead of 2 to 5.
	wantWrong(t, "1: nop", api.ErrText, 0)
	wantWrong(t, "a:\na: nop", api.ErrName, 3)
	wantWrong(t, "a:\na: push8", api.ErrName, 3)
	wantWrong(t, "a:\na: push8 300", api.ErrName, 3)
	wantWrong(t, "a:\na: dup dup", api.ErrName, 3)
	wantWrong(t, "a:\n"+full+"a: dup", api.ErrName, 3+n)
	wantWrong(t, full+"1: dup", api.ErrText, n)
	// 2 ahead of 3 to 5.
	wantWrong(t, "nop x y z", api.ErrText, 0)
	wantWrong(t, full+"nop", api.ErrText, n)
	// 3 ahead of 4 and 5.
	wantWrong(t, "push8 x y", api.ErrText, 6)
	wantWrong(t, "push8 300 y", api.ErrRange, 6)
	wantWrong(t, full+"push8", api.ErrText, n+5)
	wantWrong(t, full+"push8 x", api.ErrText, n+6)
	wantWrong(t, full+"push8 128", api.ErrRange, n+6)
	// 4 ahead of 5.
	wantWrong(t, full+"dup dup", api.ErrText, n+4)
	wantWrong(t, full+"push8 5 dup", api.ErrText, n+8)
}

// P14.1: of two errors in several lines that of the first line is told; names that no label has come last.
func TestParseFirstErrorOfAText(t *testing.T) {
	wantWrong(t, "push8 300\nnop", api.ErrRange, 6)
	wantWrong(t, "nop\npush8 300", api.ErrText, 0)
	wantWrong(t, "dup 1\na:\na:", api.ErrText, 4)
	wantWrong(t, "a:\na:\ndup 1", api.ErrName, 3)

	wantWrong(t, "jump b\nnop", api.ErrText, 7)
	wantWrong(t, "jump b\npush8 300", api.ErrRange, 13)
	wantWrong(t, "a: jump b\na:", api.ErrName, 10)
	wantWrong(t, "jump b\npush8", api.ErrText, 12)
	wantWrong(t, "jump b\ndup 1", api.ErrText, 11)
	wantWrong(t, "jump b\n"+strings.Repeat("dup\n", 510), api.ErrFull, 7+4*509)
	wantWrong(t, "jump b c", api.ErrText, 7)

	wantWrong(t, "jump b\ncall c", api.ErrName, 5)
	wantWrong(t, "b: jump b\ncall c\njumpz d", api.ErrName, 15)
	wantWrong(t, "jump a\ncall c\na:", api.ErrName, 12)
	wantWrong(t, "jumpz B\nb:", api.ErrName, 6)
	wantWrong(t, "jump dup\ndup", api.ErrName, 5)
	wantWrong(t, "call a # a:\n#a:\n", api.ErrName, 5)
}

// P14.2: the chapter's examples.
func TestPrintExamples(t *testing.T) {
	wantText(t, "\x18\xfd\xff\x18\x00\x00", "L0:\njump L0\njump L6\nL6:\n")
	wantText(t, "\x18\x01\x00\x02\x05\x00", "jump 1\npush16 5\n")
}

// P14.2: each instruction, with operands at the edges of their ranges.
func TestPrintEachWord(t *testing.T) {
	wantText(t, "", "")
	for c, r := range rows {
		if r.size == 0 {
			wantText(t, bytesOf(c, 0), r.word+"\n")
			wantText(t, bytesOf(c, 0)+"\x00", r.word+"\ncommit\n")
			continue
		}
		for _, x := range []int64{r.least, r.least + 1, -128, -1, 0, 1, 5, r.most - 1, r.most} {
			leads := r.named() && (r.word == "call" && (x == 0 || x == 4 || x == 1) || r.word != "call" && (x == 0 || x == -4))
			if x >= r.least && x <= r.most && !leads {
				wantText(t, "\x04"+bytesOf(c, x), fmt.Sprintf("dup\n%s %d\n", r.word, x))
			}
		}
	}
}

// P14.2: each error that code.Decode has.
func TestPrintErrors(t *testing.T) {
	wantNoText(t, strings.Repeat("\x04", 513), api.ErrFull)
	wantNoText(t, strings.Repeat("\x29", 513), api.ErrFull)
	wantNoText(t, strings.Repeat("\x00", 70000), api.ErrFull)
	for b := 41; b < 256; b++ {
		wantNoText(t, string([]byte{byte(b)}), api.ErrCode)
		wantNoText(t, "\x18\x00\x00\x04"+string([]byte{byte(b)})+"\x00", api.ErrCode)
	}
	for c, r := range rows {
		whole := bytesOf(c, r.most)
		for n := 1; n < len(whole); n++ {
			wantNoText(t, whole[:n], api.ErrCode)
			wantNoText(t, "\x18\xfd\xff"+whole[:n], api.ErrCode)
		}
	}
	wantNoText(t, "\x17\x06", api.ErrCode)
	wantNoText(t, strings.Repeat("\x04", 511)+"\x29", api.ErrCode)
	wantText(t, strings.Repeat("\x04", 512), strings.Repeat("dup\n", 512))
}

// P14.2: a jump, jumpz or call to each place around and inside a program.
func TestPrintEachTarget(t *testing.T) {
	// Behind the first instruction's 3 bytes: dup, push16, commit, conv.
	rest := []string{"dup", "push16 -2", "commit", "conv 5"}
	bytes := "\x04\x02\xfe\xff\x00\x17\x05"
	begins := map[int]int{0: -1, 3: 0, 4: 1, 7: 2, 8: 3, 10: 4}
	for _, word := range []string{"jump", "jumpz", "call"} {
		for to := -12; to < 25; to++ {
			operand := to - 3
			if word == "call" {
				operand = to
			}
			if word == "call" && to < 0 {
				continue
			}
			where, leads := begins[to]
			var want strings.Builder
			if leads && where == -1 {
				want.WriteString("L0:\n")
			}
			if leads {
				fmt.Fprintf(&want, "%s L%d\n", word, to)
			} else {
				fmt.Fprintf(&want, "%s %d\n", word, operand)
			}
			for i, line := range append(rest, "") {
				if leads && where == i {
					fmt.Fprintf(&want, "L%d:\n", to)
				}
				if line != "" {
					want.WriteString(line + "\n")
				}
			}
			wantText(t, bytesOf(codeOf(word), int64(operand))+bytes, want.String())
		}
	}
}

// P14.2: a label is put once, whoever leads there; and only by those that lead.
func TestPrintLabels(t *testing.T) {
	wantText(t, "\x18\x03\x00\x19\x00\x00\x1a\x06\x00", "jump L6\njumpz L6\nL6:\ncall L6\n")
	wantText(t, "\x1a\x09\x00\x1a\x09\x00\x1a\x0a\x00\x00", "call L9\ncall L9\ncall L10\nL9:\ncommit\nL10:\n")
	wantText(t, "\x01\x00\x1c\x02\x21\x00\x02\x00\x00", "push8 0\narg 2\ncadd 0\npush16 0\n")
	// One that leads nowhere makes no label, though another leads to the same number.
	wantText(t, "\x18\x02\x00\x18\x03\x00\x02\x05\x00\x04", "jump 2\njump L9\npush16 5\nL9:\ndup\n")
	wantText(t, "\x1a\x01\x00", "call 1\n")
	wantText(t, "\x1a\x04\x00", "call 4\n")
	wantText(t, "\x1a\x03\x00", "call L3\nL3:\n")
	wantText(t, "\x18\xfc\xff", "jump -4\n")
	wantText(t, "\x18\x01\x00", "jump 1\n")
	wantText(t, "\x18\x00\x80", "jump -32768\n")
	wantText(t, "\x19\xff\x7f", "jumpz 32767\n")
	wantText(t, "\x1a\xff\xff", "call 65535\n")
	dups := strings.Repeat("\x04", 509)
	wantText(t, "\x1a\x00\x02"+dups, "call L512\n"+strings.Repeat("dup\n", 509)+"L512:\n")
	wantText(t, "\x1a\x01\x02"+dups, "call 513\n"+strings.Repeat("dup\n", 509))
	wantText(t, dups+"\x18\x00\xfe", "L0:\n"+strings.Repeat("dup\n", 509)+"jump L0\n")
	wantText(t, dups+"\x18\xff\xfd", strings.Repeat("dup\n", 509)+"jump -513\n")
}

// program is some instructions that lie about, of at most so many bytes; many of them lead somewhere near.
func (s *strewn) program(most int) string {
	var all string
	for {
		c := s.below(41)
		if s.below(3) == 0 {
			c = api.OpJump + s.below(3)
		}
		r := rows[c]
		x := int64(s.below(40)) - 20
		if s.below(8) == 0 {
			x = r.least + int64(s.below(2))*(r.most-r.least)
		}
		one := bytesOf(c, min(max(x, r.least), r.most))
		if len(all)+len(one) > most {
			return all
		}
		all += one
	}
}

// P14.3: Parse of Print is the program; so it is of what Parse gives.
func TestPrintThenParse(t *testing.T) {
	s := strewn(1)
	for range 1500 {
		program := s.program(s.below(80))
		text, why := asm.Print(program)
		if why != api.OK {
			t.Fatalf("Print(%x): %d", program, why)
		}
		wantBytes(t, text, program)
	}
	for range 40 {
		program := s.program(api.MaxCode)
		text, _ := asm.Print(program)
		wantBytes(t, text, program)
	}
	for c, r := range rows {
		for _, x := range []int64{r.least, r.most} {
			text, _ := asm.Print(bytesOf(c, x))
			wantBytes(t, text, bytesOf(c, x))
		}
	}
	for range 3000 {
		text := s.text()
		program, why, _ := asm.Parse(text)
		if why != api.OK {
			continue
		}
		printed, why := asm.Print(program)
		if why != api.OK {
			t.Fatalf("Print(%x), which Parse gave of %q: %d", program, text, why)
		}
		wantBytes(t, printed, program)
	}
}

// P14.4: lines without tokens, remarks, more blanks and tabs, other names: the program stays.
func TestParseSameProgram(t *testing.T) {
	s := strewn(4)
	blank := func() string { return s.of(" ", "\t", "  ", " \t ", "\t\t") }
	for range 300 {
		program := s.program(s.below(60))
		text, _ := asm.Print(program)
		// A name begins with L, a word with no great letter.
		names := s.of("L", "_", "Lx", "dup", "name_", "x0123456789_")
		var other strings.Builder
		joined := false
		for line := range strings.Lines(text) {
			line = strings.ReplaceAll(strings.TrimSuffix(line, "\n"), "L", names)
			line = strings.ReplaceAll(line, " ", blank())
			if !joined {
				other.WriteString(s.of("", "", "\n", " \t\n", "# jump nowhere\n", "#:\n\n"))
			}
			other.WriteString(s.of("", blank()) + line + s.of("", blank()))
			// Behind a label its instruction may stand on the same line.
			joined = strings.HasSuffix(line, ":") && s.below(2) == 0
			if joined {
				other.WriteString(blank())
			} else {
				other.WriteString(s.of("", "#", "# dup", "#a: ") + "\n")
			}
		}
		wantBytes(t, other.String()+s.of("", "#", "\n", " "), program)
	}
	// A label and the instruction behind it on one line, or on two, or far apart.
	want := "\x04\x18\xfc\xff"
	for _, text := range []string{"a: dup\njump a", "a:\ndup\njump a", "a:\n\n\n# x\n\tdup\njump a", "zz: dup\njump zz", "a:\nb: dup\njump b"} {
		wantBytes(t, text, want)
	}
}

// R1, R4: whatever is given, each call answers, and always the same.
func TestAnyBytes(t *testing.T) {
	s := strewn(5)
	for range 3000 {
		any := make([]byte, s.below(20))
		for i := range any {
			any[i] = byte(s.below(256))
		}
		text := string(any)
		p, why, at := asm.Parse(text)
		if q, e, k := asm.Parse(text); p != q || why != e || at != k {
			t.Fatalf("Parse(%q) = %x %d %d, and then %x %d %d", text, p, why, at, q, e, k)
		}
		if why != api.OK && (p != "" || at < 0 || at > len(text)) || why == api.OK && at != 0 {
			t.Fatalf("Parse(%q) = %x %d %d", text, p, why, at)
		}
		u, why := asm.Print(text)
		if v, e := asm.Print(text); u != v || why != e || why != api.OK && u != "" {
			t.Fatalf("Print(%q) = %q %d, and then %q %d", text, u, why, v, e)
		}
	}
	for range 3 {
		wantWrong(t, "a: jump b", api.ErrName, 8)
		wantBytes(t, "b: jump b", "\x18\xfd\xff")
		wantBytes(t, "a: dup", "\x04")
	}
}

// P14.1: long texts are read to their end.
func TestLongTexts(t *testing.T) {
	remark := "#" + strings.Repeat(" dup", 50000) + "\n"
	wantBytes(t, remark+"dup\n"+strings.Repeat("\n", 70000)+remark+"call e"+strings.Repeat(" ", 70000)+"\ne:", "\x04\x1a\x04\x00")
	wantWrong(t, remark+strings.Repeat("\t \n", 70000)+"nop", api.ErrText, len(remark)+210000)
	var labels strings.Builder
	for i := range 70000 {
		fmt.Fprintf(&labels, "l%d:\n", i)
	}
	wantBytes(t, "dup\n"+labels.String()+"call l69999\ncall l0", "\x04\x1a\x01\x00\x1a\x01\x00")
	wantWrong(t, labels.String()+"l7:", api.ErrName, labels.Len())
}
