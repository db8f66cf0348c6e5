package asm

import (
	"strconv"
	"strings"

	"carousel/api"
	"carousel/code"
)

// maxName is how many bytes a name has at most.
const maxName = 16

// fault is what is wrong in a text, and where: what a panic carries up to the face.
type fault struct {
	why api.Errno
	at  int
}

// giveUp leaves all reading.
func giveUp(why api.Errno, at int) {
	panic(fault{why, at})
}

// token is a row of bytes of a text, and its place there; an empty one: there is none.
type token struct {
	text string
	at   int
}

// line is what is still to be read of a line, without its remark: the text from at to end.
type line struct {
	text    string
	at, end int
}

// next takes the line's next token.
func (l *line) next() token {
	for l.at < l.end && parts(l.text[l.at]) {
		l.at++
	}
	from := l.at
	for l.at < l.end && !parts(l.text[l.at]) {
		l.at++
	}
	return token{l.text[from:l.at], from}
}

// parts: does a byte part tokens?
func parts(b byte) bool {
	return b == ' ' || b == '\t'
}

// use is an operand that names a label: of which instruction, and the place behind that.
type use struct {
	op     int
	name   token
	behind int
}

// reader is what was read of a text.
type reader struct {
	ops    []api.Op
	size   int            // how many bytes these have
	labels map[string]int // a name's place
	uses   []use
}

// readLines reads all lines of a text.
func (r *reader) readLines(s string) {
	for at := 0; at <= len(s); {
		end := len(s)
		if n := strings.IndexByte(s[at:], '\n'); n >= 0 {
			end = at + n
		}
		counts, _, _ := strings.Cut(s[at:end], "#")
		r.readLine(line{s, at, at + len(counts)})
		at = end + 1
	}
}

// readLine reads a line.
func (r *reader) readLine(rest line) {
	word := rest.next()
	if strings.HasSuffix(word.text, ":") {
		r.putLabel(word)
		word = rest.next()
	}
	if word.text != "" {
		r.readInstruction(word, rest)
	}
}

// putLabel puts a label where the next instruction will stand.
func (r *reader) putLabel(label token) {
	name := strings.TrimSuffix(label.text, ":")
	if !isName(name) {
		giveUp(api.ErrText, label.at)
	}
	if _, there := r.labels[name]; there {
		giveUp(api.ErrName, label.at)
	}
	r.labels[name] = r.size
}

// readInstruction reads an instruction, of which the word is read already.
func (r *reader) readInstruction(word token, rest line) {
	opcode, known := opcodeOf(word.text)
	if !known {
		giveUp(api.ErrText, word.at)
	}
	op, name := api.Op{Code: opcode}, token{}
	size, _ := sizeOf(op)
	if size > 1 {
		operand := rest.next()
		if operand.text == "" {
			giveUp(api.ErrText, word.at+len(word.text))
		}
		op.Operand, name = readOperand(opcode, operand)
	}
	if more := rest.next(); more.text != "" {
		giveUp(api.ErrText, more.at)
	}
	if r.size+size > api.MaxCode {
		giveUp(api.ErrFull, word.at)
	}
	r.size += size
	if name.text != "" {
		r.uses = append(r.uses, use{len(r.ops), name, r.size})
	}
	r.ops = append(r.ops, op)
}

// readOperand is the operand of an opcode: its number, or the name that will stand for one.
func readOperand(opcode int, operand token) (int64, token) {
	if takesName(opcode) && isName(operand.text) {
		return 0, operand
	}
	number, is := numberOf(operand.text)
	if !is {
		giveUp(api.ErrText, operand.at)
	}
	if _, why := sizeOf(api.Op{Code: opcode, Operand: number}); why != api.OK {
		giveUp(why, operand.at)
	}
	return number, token{}
}

// resolve puts numbers for names, once all labels are known.
func (r *reader) resolve() {
	for _, u := range r.uses {
		place, there := r.labels[u.name.text]
		if !there {
			giveUp(api.ErrName, u.name.at)
		}
		if r.ops[u.op].Code != api.OpCall {
			place -= u.behind
		}
		r.ops[u.op].Operand = int64(place)
	}
}

// sizeOf is how many bytes an instruction has, or why it may not be.
func sizeOf(op api.Op) (int, api.Errno) {
	bytes, why, _ := code.Encode([]api.Op{op})
	return len(bytes), why
}

// opcodeOf is the opcode of a word; false: it is none.
func opcodeOf(text string) (int, bool) {
	for opcode, word := range words {
		if word == text {
			return opcode, true
		}
	}
	return 0, false
}

// takesName: may the opcode's operand be a name?
func takesName(opcode int) bool {
	return opcode == api.OpJump || opcode == api.OpJumpz || opcode == api.OpCall
}

// isName: is a text a name?
func isName(s string) bool {
	if s == "" || len(s) > maxName || isDigit(s[0]) {
		return false
	}
	for i := range len(s) {
		if !isLetter(s[i]) && !isDigit(s[i]) {
			return false
		}
	}
	return true
}

// isLetter: may a byte stand anywhere in a name?
func isLetter(b byte) bool {
	return b >= 'a' && b <= 'z' || b >= 'A' && b <= 'Z' || b == '_'
}

func isDigit(b byte) bool {
	return b >= '0' && b <= '9'
}

// numberOf is the number that a text is; false: it is none.
func numberOf(s string) (int64, bool) {
	number, err := strconv.ParseInt(s, 10, 64)
	// The library takes more than the one way in which a number is written here: +1, 01, -0.
	if err != nil || strconv.FormatInt(number, 10) != s {
		return 0, false
	}
	return number, true
}
