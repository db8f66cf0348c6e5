package asm_test

import (
	"encoding/binary"
	"regexp"
	"strconv"
	"strings"
	"testing"

	"carousel/api"
	"carousel/asm"
)

var (
	tokens  = regexp.MustCompile(`[^ \t]+`)
	label   = regexp.MustCompile(`\A[A-Za-z_][A-Za-z0-9_]{0,15}:\z`)
	name    = regexp.MustCompile(`\A[A-Za-z_][A-Za-z0-9_]{0,15}\z`)
	numeral = regexp.MustCompile(`\A(0|-?[1-9][0-9]*)\z`)
)

// reading is a text as the chapter tells it, read in another way than the program does: by patterns, over whole lists of tokens.
type reading struct {
	labels  map[string]int
	program []byte
	uses    []use
}

// use is a name as an operand: its place in the text, and that of its instruction in the program.
type use struct {
	name     string
	at, inst int
}

// byRules is what Parse should answer.
func byRules(text string) (string, api.Errno, int) {
	r := reading{labels: map[string]int{}}
	ahead := 0
	for _, line := range strings.Split(text, "\n") {
		if why, at := r.line(strings.Split(line, "#")[0]); why != api.OK {
			return "", why, ahead + at
		}
		// A line's own place is not known to it.
		if n := len(r.uses); n > 0 && r.uses[n-1].at < 0 {
			r.uses[n-1].at = ahead + ^r.uses[n-1].at
		}
		ahead += len(line) + 1
	}
	for _, u := range r.uses {
		place, there := r.labels[u.name]
		if !there {
			return "", api.ErrName, u.at
		}
		if r.program[u.inst] != api.OpCall {
			place -= u.inst + 3
		}
		binary.LittleEndian.PutUint16(r.program[u.inst+1:], uint16(place))
	}
	return string(r.program), api.OK, 0
}

// line takes a line; what is wrong, and where in the line.
func (r *reading) line(text string) (api.Errno, int) {
	spans := tokens.FindAllStringIndex(text, -1)
	list := tokens.FindAllString(text, -1)
	if len(list) > 0 && strings.HasSuffix(list[0], ":") {
		if !label.MatchString(list[0]) {
			return api.ErrText, spans[0][0]
		}
		key := list[0][:len(list[0])-1]
		if _, there := r.labels[key]; there {
			return api.ErrName, spans[0][0]
		}
		r.labels[key] = len(r.program)
		list, spans = list[1:], spans[1:]
	}
	if len(list) == 0 {
		return api.OK, 0
	}
	return r.instruction(list, spans)
}

// instruction takes the tokens of a line behind its label.
func (r *reading) instruction(list []string, spans [][]int) (api.Errno, int) {
	opcode := codeOf(list[0])
	if opcode < 0 {
		return api.ErrText, spans[0][0]
	}
	form, number, taken := rows[opcode], int64(0), 1
	byName := form.named() && len(list) > 1 && name.MatchString(list[1])
	if form.size > 0 {
		if len(list) == 1 {
			return api.ErrText, spans[0][1]
		}
		taken = 2
		x, err := strconv.ParseInt(list[1], 10, 64)
		if !byName && (err != nil || !numeral.MatchString(list[1])) {
			return api.ErrText, spans[1][0]
		}
		if !byName && (x < form.least || x > form.most) {
			return api.ErrRange, spans[1][0]
		}
		number = x
	}
	if len(list) > taken {
		return api.ErrText, spans[taken][0]
	}
	if len(r.program)+1+form.size > 512 {
		return api.ErrFull, spans[0][0]
	}
	if byName {
		r.uses = append(r.uses, use{list[1], ^spans[1][0], len(r.program)})
	}
	r.program = append(r.program, bytesOf(opcode, number)...)
	return api.OK, 0
}

// text is some lines that lie about; most of them are right.
func (s *strewn) text() string {
	var all strings.Builder
	for range s.below(7) {
		if s.below(4) == 0 {
			all.WriteString(s.of("a", "b", "c", "d", "L0", "_", "abcdefghijklmnop") + s.of(":", ":", ": ", ":\t") + s.of("", " "))
		}
		r := rows[s.below(41)]
		if s.below(3) == 0 {
			r = rows[api.OpJump+s.below(3)]
		}
		if s.below(5) > 0 {
			all.WriteString(s.of("", "", " ", "\t") + r.word)
		}
		if r.size > 0 {
			all.WriteString(" " + s.of("0", "1", "5", "100", "-7", "a", "b", "a"))
		}
		all.WriteString(s.of("", "", " ", "#", " # dup") + s.of("\n", "\n", "\n", "\n\n", ""))
	}
	return all.String()
}

// junk is some pieces of texts that lie about.
func (s *strewn) junk() string {
	var all strings.Builder
	for range s.below(14) {
		all.WriteString(s.of("a", "b", "a:", "b:", ":", "dup", "push8", "jump", "call", "conv", "arg", "push64", "0", "1", "-1", "-0", "300", "70000", "6", "01",
			"9223372036854775808", "abcdefghijklmnop", "#", "\n", "\n", "\n", "\t", " ", " ", " ", " ", " ", "\r", "\xff", "\x00", "_"))
	}
	return all.String()
}

func wantByRules(t *testing.T, text string) api.Errno {
	t.Helper()
	want, why, place := byRules(text)
	if s, e, at := asm.Parse(text); s != want || e != why || at != place {
		t.Errorf("Parse(%q) = %x %d %d, want %x %d %d", text, s, e, at, want, why, place)
	}
	return why
}

// P14.1: over texts that lie about Parse goes by the chapter's rules.
func TestParseGoesByTheRules(t *testing.T) {
	s := strewn(6)
	met := map[api.Errno]int{}
	for range 20000 {
		met[wantByRules(t, s.text())]++
		met[wantByRules(t, s.junk())]++
	}
	// Nearly full ones, so that the last bound is met, too.
	for range 200 {
		met[wantByRules(t, strings.Repeat("dup\n", 495+s.below(17))+s.text()+s.text())]++
	}
	for _, why := range []api.Errno{api.OK, api.ErrText, api.ErrName, api.ErrRange, api.ErrFull} {
		if met[why] < 20 {
			t.Errorf("the answer %d was met only %d times", why, met[why])
		}
	}
}

// P14.1: all texts of up to four pieces.
func TestParseShortTexts(t *testing.T) {
	pieces := []string{" ", "\n", "#", "a", "a:", "dup", "jump", "push8", "7", "300", "-"}
	texts := []string{""}
	for range 4 {
		var longer []string
		for _, text := range texts {
			for _, piece := range pieces {
				longer = append(longer, text+piece)
				wantByRules(t, text+piece)
				wantByRules(t, strings.ReplaceAll(text+piece, piece, piece+" "))
			}
		}
		texts = longer
	}
}
