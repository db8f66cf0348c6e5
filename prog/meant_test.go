package prog_test

import (
	"fmt"
	"strings"

	"carousel/api"
	"carousel/asm"
	"carousel/code"
	"carousel/plain"
)

// host is what a program is run over.
type host interface {
	load(p int64) int64
	store(p, v int64)
	ask(region, call int, args []int64) (int64, int)
}

// runner runs a program by the words of chapters 13 and 21.
type runner struct {
	c    api.Config
	code string
	args []int64
	over host

	place   int
	stack   []int64
	returns []int
	told    []int64
}

// argumentsOf is how many arguments a kind's call has; -1: it has no such call.
func argumentsOf(kind, call int) int {
	switch kind*10 + call {
	case 11, 33:
		return 2
	case 12, 23, 32, 34, 41, 44, 46, 48:
		return 1
	case 22, 25, 35, 45, 47:
		return 0
	}
	return -1
}

// effectOf is how many numbers an instruction takes and puts; -1: it is a bad opcode.
func (r *runner) effectOf(op api.Op) (int, int) {
	if op.Code <= 32 {
		takes := [...]int{0, 0, 0, 0, 1, 1, 2, 2, 2, 2, 2, 2, 2, 2, 2, 2, 1, 2, 2, 2, 2, 2, 2, 1, 0, 1, 0, 0, 0, 1, 0, 1, 2}
		puts := [...]int{0, 1, 1, 1, 2, 0, 2, 3, 1, 1, 1, 1, 1, 1, 1, 1, 1, 1, 1, 1, 1, 1, 1, 1, 0, 0, 0, 0, 1, 0, 0, 1, 0}
		return takes[op.Code], puts[op.Code]
	}
	if op.Operand >= int64(len(r.c.Regions)) {
		return -1, 2
	}
	return argumentsOf(r.c.Regions[op.Operand].Kind, op.Code-32), 2
}

// faults: is it a stack fault, or a bad opcode?
func (r *runner) faults(op api.Op) bool {
	takes, puts := r.effectOf(op)
	return takes < 0 || takes > len(r.stack) || len(r.stack)-takes+puts > 32 ||
		op.Code == api.OpCall && len(r.returns) == 8 ||
		op.Code == api.OpRet && len(r.returns) == 0 ||
		op.Code == api.OpTell && len(r.told) == 16
}

// next does one instruction; true: the program goes on behind it, else it is at its end, by a commit (OK), or why else.
func (r *runner) next() (api.Errno, bool) {
	op, size, why := code.At(r.code, r.place)
	if why != api.OK || r.faults(op) {
		return api.ErrBadProgram, false
	}
	switch op.Code {
	case api.OpCommit:
		return api.OK, false
	case api.OpAbort:
		return api.ErrOwn, false
	}
	takes, _ := r.effectOf(op)
	top := append([]int64(nil), r.stack[len(r.stack)-takes:]...)
	r.stack = r.stack[:len(r.stack)-takes]
	at := r.place + size
	puts := r.does(op, top, &at)
	r.stack = append(r.stack, puts...)
	r.place = at
	return api.OK, true
}

// does does an instruction with what it takes, and tells what it puts; at is where it goes on.
func (r *runner) does(op api.Op, top []int64, at *int) []int64 {
	switch op.Code {
	case api.OpPush8, api.OpPush16, api.OpPush64:
		return []int64{op.Operand}
	case api.OpDup:
		return []int64{top[0], top[0]}
	case api.OpSwap:
		return []int64{top[1], top[0]}
	case api.OpOver:
		return []int64{top[0], top[1], top[0]}
	case api.OpNot:
		return []int64{-1 - top[0]}
	case api.OpConv:
		return []int64{narrowTo(top[0], int(op.Operand))}
	case api.OpJump:
		*at += int(op.Operand)
	case api.OpJumpz:
		if top[0] == 0 {
			*at += int(op.Operand)
		}
	case api.OpCall:
		r.returns = append(r.returns, *at)
		*at = int(op.Operand)
	case api.OpRet:
		*at = r.returns[len(r.returns)-1]
		r.returns = r.returns[:len(r.returns)-1]
	case api.OpArg:
		return []int64{append(r.args[:len(r.args):len(r.args)], make([]int64, 256)...)[op.Operand]}
	case api.OpTell:
		r.told = append(r.told, top[0])
	case api.OpLoad:
		return []int64{r.over.load(top[0])}
	case api.OpStore:
		r.over.store(top[0], top[1])
	case api.OpDrop:
	default:
		if op.Code > 32 {
			value, code := r.over.ask(int(op.Operand), op.Code-32, top)
			return []int64{value, int64(code)}
		}
		word := strings.Fields("add sub mul div rem and or xor not shl shr ushr eq lt ult")[op.Code-api.OpAdd]
		return []int64{reckoned(word, top[0], top[1])}
	}
	return nil
}

// plainHost is plain cells and collections.
type plainHost struct{ *plain.State }

func (h plainHost) load(p int64) int64 { return h.Load(p) }
func (h plainHost) store(p, v int64)   { h.Store(p, v) }
func (h plainHost) ask(region, call int, args []int64) (int64, int) {
	value, code, why := h.Call(region, call, args...)
	if why != api.OK {
		panic(fmt.Sprintf("Call(%d, %d, %v): error %d", region, call, args, why))
	}
	return value, code
}

// meant runs a program over a state: what it told, how it ends; false: it didn't in so many instructions.
func meant(c api.Config, code string, args []int64, over *plain.State, most int) ([]int64, api.Errno, bool) {
	r := &runner{c: c, code: code, args: args, over: plainHost{over}}
	for range most {
		if why, going := r.next(); !going {
			return r.told, why, true
		}
	}
	return nil, api.OK, false
}

// strewn gives numbers that are spread out, the same ones each time.
type strewn uint64

func (s *strewn) below(n int) int {
	*s = *s*6364136223846793005 + 1442695040888963407
	return int(uint64(*s>>33) % uint64(n))
}

// number is one of a few, so that keys and places meet, or any.
func (s *strewn) number() int64 {
	if s.below(10) == 0 {
		edges := edgeNumbers()
		return edges[s.below(len(edges))]
	}
	return int64(s.below(7)) - 1
}

// config is any one that may be, with small numbers mostly.
func (s *strewn) config() api.Config {
	c := api.Config{Raw: 1 + s.below(4), Ring: 1 + s.below(4), Writes: 24, Stamps: 1 << 40, Multi: s.below(2) == 0, Tries: 1 + s.below(4)}
	if s.below(4) == 0 {
		c.Writes = 1 + s.below(8)
	}
	if s.below(4) == 0 {
		c.Stamps = int64(1 + s.below(6))
	}
	if s.below(6) == 0 {
		c.Raw, c.Ring, c.Tries = 1+s.below(64), 1+s.below(16), 1+s.below(255)
	}
	for range s.below(6) {
		c.Regions = append(c.Regions, api.Region{Kind: 1 + s.below(4), Cap: s.below(5)})
	}
	return c
}

// args are those of a job.
func (s *strewn) args() []int64 {
	args := make([]int64, s.below(5))
	for i := range args {
		args[i] = s.number()
	}
	return args
}

// writer writes a program down, piece by piece; each leaves the stack as it was.
type writer struct {
	seed   *strewn
	c      api.Config
	lines  []string
	subs   []string // behind the program's end
	labels int
}

func (w *writer) put(lines ...string) { w.lines = append(w.lines, lines...) }

// label is a new name.
func (w *writer) label() string {
	w.labels++
	return fmt.Sprintf("L%d", w.labels)
}

// push puts any number on the stack: its own, an argument, or what a plain cell has.
func (w *writer) push() {
	switch w.seed.below(6) {
	case 0:
		w.put(fmt.Sprintf("arg %d", w.seed.below(5)))
	case 1:
		w.put(fmt.Sprintf("push8 %d", w.seed.below(8)-2), "load")
	default:
		w.put(fmt.Sprintf("push64 %d", w.seed.number()))
	}
}

// away takes a number from the stack, and tells it, perhaps.
func (w *writer) away() {
	if w.seed.below(3) == 0 {
		w.put("tell")
		return
	}
	w.put("drop")
}

// asks is a collection's call.
func (w *writer) asks() {
	if len(w.c.Regions) == 0 {
		return
	}
	region := w.seed.below(len(w.c.Regions))
	calls := callsOf(w.c.Regions[region].Kind)
	call := calls[w.seed.below(len(calls))]
	for range argumentsOf(w.c.Regions[region].Kind, call) {
		w.push()
	}
	w.put(fmt.Sprintf("%s %d", strings.Fields("cadd cget cput cdel clen chas cleast cnext")[call-1], region))
	w.away()
	w.away()
}

// piece is any one; deep ones hold others.
func (w *writer) piece(depth int) {
	kinds := 12
	if depth > 2 {
		kinds = 8
	}
	switch w.seed.below(kinds) {
	case 0:
		w.push()
		w.put("load")
		w.away()
	case 1:
		w.push()
		w.push()
		w.put("store")
	case 2:
		cell := fmt.Sprintf("push8 %d", w.seed.below(4))
		w.put(cell, cell, "load", "push8 1", "add", "store")
	case 3:
		w.push()
		w.push()
		w.put(strings.Fields("add sub mul div rem and or xor shl shr ushr eq lt ult")[w.seed.below(14)])
		w.away()
	case 4:
		w.push()
		w.put([]string{"not", fmt.Sprintf("conv %d", w.seed.below(6)), "jump 0"}[w.seed.below(3)], "dup", "over", "swap", "drop")
		w.away()
		w.away()
	case 8:
		out := w.label()
		w.push()
		w.put("jumpz " + out)
		w.piece(depth + 1)
		w.put(out + ":")
	case 9:
		again, out := w.label(), w.label()
		w.put(fmt.Sprintf("push8 %d", 1+w.seed.below(3)), again+":")
		w.piece(depth + 1)
		w.put("push8 1", "sub", "dup", "jumpz "+out, "jump "+again, out+": drop")
	case 10:
		name := w.label()
		inner := &writer{seed: w.seed, c: w.c, labels: w.labels + 100*(depth+1)}
		inner.put(name + ":")
		inner.piece(depth + 1)
		inner.put("ret")
		w.labels = inner.labels
		w.subs = append(w.subs, append(inner.lines, inner.subs...)...)
		w.put("call " + name)
		if w.seed.below(2) == 0 {
			w.put("call " + name)
		}
	default:
		w.asks()
	}
}

// sensible is a program that mostly commits.
func (s *strewn) sensible(c api.Config) string {
	for {
		w := &writer{seed: s, c: c}
		for range 1 + s.below(7) {
			w.piece(0)
		}
		w.put(strings.Fields("commit commit commit commit commit commit commit commit abort ret jump")[s.below(11)])
		if w.lines[len(w.lines)-1] == "jump" {
			w.lines[len(w.lines)-1] = fmt.Sprintf("jump %d", s.below(60)-40)
		}
		bytes, why, _ := asm.Parse(strings.Join(append(w.lines, w.subs...), "\n"))
		if why == api.OK {
			return bytes
		}
		if why != api.ErrFull {
			panic(fmt.Sprintf("%q: error %d", append(w.lines, w.subs...), why))
		}
	}
}

// anyBytes are bytes that may be no program, mostly opcodes and small operands.
func (s *strewn) anyBytes() string {
	bytes := make([]byte, s.below(30))
	if s.below(20) == 0 {
		bytes = make([]byte, s.below(513))
	}
	for i := range bytes {
		switch s.below(6) {
		case 0:
			bytes[i] = byte(s.below(256))
		case 1:
			bytes[i] = byte(s.below(4))
		case 2:
			bytes[i] = byte(1 + 3*s.below(2))
		default:
			bytes[i] = byte(s.below(41))
		}
	}
	return string(bytes)
}

// program is one of all kinds.
func (s *strewn) program(c api.Config) string {
	switch s.below(6) {
	case 0:
		return s.anyBytes()
	case 1:
		bytes := []byte(s.sensible(c))
		bytes[s.below(len(bytes))] = byte(s.below(48))
		return string(bytes)
	}
	return s.sensible(c)
}
