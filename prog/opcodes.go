package prog

import "carousel/api"

// What conv's operands take the lowest bits for; the last operand, beyond these, for a uint32.
const (
	convInt8 = iota
	convInt16
	convInt32
	convUint8
	convUint16
)

// instruction is what an opcode does: so many numbers it takes from the stack and puts there, once it is done.
type instruction struct {
	takes, puts int
	does        func(x *Machine, op api.Op)
}

// instructions are those of all opcodes. How many numbers a collection's call takes hangs on the collection, too: see effect.
func instructions() [api.OpAsk + api.CallNext + 1]instruction {
	return [...]instruction{
		api.OpCommit:              {0, 0, (*Machine).commit},
		api.OpPush8:               {0, 1, (*Machine).pushOperand},
		api.OpPush16:              {0, 1, (*Machine).pushOperand},
		api.OpPush64:              {0, 1, (*Machine).pushOperand},
		api.OpDup:                 {1, 2, (*Machine).dup},
		api.OpDrop:                {1, 0, (*Machine).drop},
		api.OpSwap:                {2, 2, (*Machine).swap},
		api.OpOver:                {2, 3, (*Machine).over},
		api.OpAdd:                 {2, 1, (*Machine).add},
		api.OpSub:                 {2, 1, (*Machine).sub},
		api.OpMul:                 {2, 1, (*Machine).mul},
		api.OpDiv:                 {2, 1, (*Machine).div},
		api.OpRem:                 {2, 1, (*Machine).rem},
		api.OpAnd:                 {2, 1, (*Machine).and},
		api.OpOr:                  {2, 1, (*Machine).or},
		api.OpXor:                 {2, 1, (*Machine).xor},
		api.OpNot:                 {1, 1, (*Machine).not},
		api.OpShl:                 {2, 1, (*Machine).shl},
		api.OpShr:                 {2, 1, (*Machine).shr},
		api.OpUshr:                {2, 1, (*Machine).ushr},
		api.OpEq:                  {2, 1, (*Machine).eq},
		api.OpLt:                  {2, 1, (*Machine).lt},
		api.OpUlt:                 {2, 1, (*Machine).ult},
		api.OpConv:                {1, 1, (*Machine).conv},
		api.OpJump:                {0, 0, (*Machine).jump},
		api.OpJumpz:               {1, 0, (*Machine).jumpz},
		api.OpCall:                {0, 0, (*Machine).call},
		api.OpRet:                 {0, 0, (*Machine).ret},
		api.OpArg:                 {0, 1, (*Machine).arg},
		api.OpTell:                {1, 0, (*Machine).tell},
		api.OpAbort:               {0, 0, (*Machine).abort},
		api.OpLoad:                {1, 1, (*Machine).load},
		api.OpStore:               {2, 0, (*Machine).store},
		api.OpAsk + api.CallAdd:   {0, 2, (*Machine).ask},
		api.OpAsk + api.CallGet:   {0, 2, (*Machine).ask},
		api.OpAsk + api.CallPut:   {0, 2, (*Machine).ask},
		api.OpAsk + api.CallDel:   {0, 2, (*Machine).ask},
		api.OpAsk + api.CallLen:   {0, 2, (*Machine).ask},
		api.OpAsk + api.CallHas:   {0, 2, (*Machine).ask},
		api.OpAsk + api.CallLeast: {0, 2, (*Machine).ask},
		api.OpAsk + api.CallNext:  {0, 2, (*Machine).ask},
	}
}

// effect is how many numbers an instruction takes and puts; false: it is a bad opcode.
func (x *Machine) effect(op api.Op) (takes, puts int, known bool) {
	one := instructions()[op.Code]
	if op.Code <= api.OpAsk {
		return one.takes, one.puts, true
	}
	if op.Operand >= int64(len(x.regions)) {
		return 0, 0, false
	}
	count, has := x.regions[op.Operand].arguments(op.Code - api.OpAsk)
	return count, one.puts, has
}

// faults: is it a stack fault, or a bad opcode?
func (x *Machine) faults(op api.Op) bool {
	takes, puts, known := x.effect(op)
	if !known || takes > len(x.stack) || len(x.stack)-takes+puts > api.MaxStack {
		return true
	}
	switch op.Code {
	case api.OpCall:
		return len(x.returns) == api.MaxCalls
	case api.OpRet:
		return len(x.returns) == 0
	case api.OpTell:
		return len(x.told) == api.MaxTells
	}
	return false
}

// push puts a number on the stack.
func (x *Machine) push(v int64) { x.stack = append(x.stack, v) }

// pop takes the top number from the stack.
func (x *Machine) pop() int64 { return x.popAll(1)[0] }

// popTwo takes the two top numbers; the last one was on top.
func (x *Machine) popTwo() (int64, int64) {
	top := x.popAll(2)
	return top[0], top[1]
}

// popAll takes so many; they hold till the next push.
func (x *Machine) popAll(count int) []int64 {
	rest := len(x.stack) - count
	top := x.stack[rest:]
	x.stack = x.stack[:rest]
	return top
}

// pushTruth puts 1 on the stack, if something is so, else 0.
func (x *Machine) pushTruth(so bool) {
	if so {
		x.push(1)
		return
	}
	x.push(0)
}

// What follows are the opcodes by their words, as chapter 13 tells what they do; faults has found nothing against it.

func (x *Machine) commit(api.Op) { x.want = api.Want{Kind: api.WantCommit} }

func (x *Machine) abort(api.Op) { x.want = giveUp(api.ErrOwn) }

func (x *Machine) pushOperand(op api.Op) { x.push(op.Operand) }

func (x *Machine) dup(api.Op) {
	a := x.pop()
	x.push(a)
	x.push(a)
}

func (x *Machine) drop(api.Op) { x.pop() }

func (x *Machine) swap(api.Op) {
	a, b := x.popTwo()
	x.push(b)
	x.push(a)
}

func (x *Machine) over(api.Op) {
	a, b := x.popTwo()
	x.push(a)
	x.push(b)
	x.push(a)
}

func (x *Machine) add(api.Op) {
	a, b := x.popTwo()
	x.push(a + b)
}

func (x *Machine) sub(api.Op) {
	a, b := x.popTwo()
	x.push(a - b)
}

func (x *Machine) mul(api.Op) {
	a, b := x.popTwo()
	x.push(a * b)
}

func (x *Machine) div(api.Op) {
	a, b := x.popTwo()
	if b == 0 {
		x.push(0)
		return
	}
	// The least number by -1 goes round to itself.
	x.push(a / b)
}

func (x *Machine) rem(api.Op) {
	a, b := x.popTwo()
	if b == 0 {
		x.push(0)
		return
	}
	x.push(a % b)
}

func (x *Machine) and(api.Op) {
	a, b := x.popTwo()
	x.push(a & b)
}

func (x *Machine) or(api.Op) {
	a, b := x.popTwo()
	x.push(a | b)
}

func (x *Machine) xor(api.Op) {
	a, b := x.popTwo()
	x.push(a ^ b)
}

func (x *Machine) not(api.Op) { x.push(^x.pop()) }

func (x *Machine) shl(api.Op) {
	a, n := x.popTwo()
	x.push(a << shiftBy(n))
}

func (x *Machine) shr(api.Op) {
	a, n := x.popTwo()
	x.push(a >> shiftBy(n))
}

func (x *Machine) ushr(api.Op) {
	a, n := x.popTwo()
	x.push(int64(uint64(a) >> shiftBy(n)))
}

func (x *Machine) eq(api.Op) {
	a, b := x.popTwo()
	x.pushTruth(a == b)
}

func (x *Machine) lt(api.Op) {
	a, b := x.popTwo()
	x.pushTruth(a < b)
}

func (x *Machine) ult(api.Op) {
	a, b := x.popTwo()
	x.pushTruth(uint64(a) < uint64(b))
}

func (x *Machine) conv(op api.Op) { x.push(narrowed(x.pop(), op.Operand)) }

func (x *Machine) jump(op api.Op) { x.next += int(op.Operand) }

func (x *Machine) jumpz(op api.Op) {
	if x.pop() == 0 {
		x.jump(op)
	}
}

func (x *Machine) call(op api.Op) {
	x.returns = append(x.returns, x.next)
	x.next = int(op.Operand)
}

func (x *Machine) ret(api.Op) {
	last := len(x.returns) - 1
	x.next = x.returns[last]
	x.returns = x.returns[:last]
}

func (x *Machine) arg(op api.Op) {
	if op.Operand >= int64(len(x.args)) {
		x.push(0)
		return
	}
	x.push(x.args[op.Operand])
}

func (x *Machine) tell(api.Op) { x.told = append(x.told, x.pop()) }

func (x *Machine) load(api.Op) {
	x.want = api.Want{Kind: api.WantRead, Cell: x.plainCell(x.pop())}
}

func (x *Machine) store(api.Op) {
	p, v := x.popTwo()
	x.want = api.Want{Kind: api.WantWrite, Cell: x.plainCell(p), Value: v}
}

// ask begins a collection's call.
func (x *Machine) ask(op api.Op) {
	takes, _, _ := x.effect(op)
	x.asked, _ = x.regions[op.Operand].ask(op.Code-api.OpAsk, x.popAll(takes)...)
}

// plainCell is the plain cell that a number means: as a word none is below 0, and all go round.
func (x *Machine) plainCell(p int64) int {
	return int(uint64(p) % uint64(x.config.Raw))
}

// shiftBy is how far a shift by n goes: the lowest six bits.
func shiftBy(n int64) uint64 { return uint64(n) & 63 }

// narrowed is a number's lowest bits as a number, by conv's operand.
func narrowed(a, operand int64) int64 {
	switch operand {
	case convInt8:
		return int64(int8(a))
	case convInt16:
		return int64(int16(a))
	case convInt32:
		return int64(int32(a))
	case convUint8:
		return int64(uint8(a))
	case convUint16:
		return int64(uint16(a))
	}
	return int64(uint32(a))
}
