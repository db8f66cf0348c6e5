// Package shift is layer 1: see shared/doc/01-shift.md.
package shift

import "carousel/api"

// The multipliers of Mix are odd, so that a multiplication can be undone, as a
// fold can: no two words are mixed into one.
const (
	mixFirst  = 0xff51afd7ed558ccd
	mixSecond = 0xc4ceb9fe1a85ec53
	mixFold   = 33
)

const (
	wordBits = 64

	// placeMask keeps a count of places below wordBits; of a count below 0 it
	// keeps what the count is modulo wordBits.
	placeMask = wordBits - 1

	// sigHashBits: a signature has 2^9 = api.SigBits bits.
	sigHashBits = 9
)

// The kinds of Narrow.
const (
	kindInt8 = iota
	kindInt16
	kindInt32
	kindUint8
	kindUint16
	kindUint32
)

// Mix mixes a word's bits.
func Mix(x uint64) uint64 {
	x ^= x >> mixFold
	x *= mixFirst
	x ^= x >> mixFold
	x *= mixSecond
	x ^= x >> mixFold
	return x
}

// Turn turns a word's bits to the left.
func Turn(x uint64, n int) uint64 {
	k := uint64(n) & placeMask
	// At k = 0 the second part is shifted out whole: that needs no case of its own.
	return x<<k | x>>(wordBits-k)
}

// SigHash is the bit of a cell in a signature.
func SigHash(cell int) int {
	return int(Mix(uint64(int64(cell))) >> (wordBits - sigHashBits))
}

// Head is a slot's head word.
func Head(stamp int64, done bool) int64 {
	head := stamp << 1
	if done {
		head |= 1
	}
	return head
}

// Stamp is the stamp in a head word.
func Stamp(head int64) int64 { return head >> 1 }

// Done is the mark in a head word.
func Done(head int64) bool { return head&1 == 1 }

// Narrow is a number as a smaller type has it.
func Narrow(x int64, kind int) (int64, api.Errno) {
	switch kind {
	case kindInt8:
		return int64(int8(x)), api.OK
	case kindInt16:
		return int64(int16(x)), api.OK
	case kindInt32:
		return int64(int32(x)), api.OK
	case kindUint8:
		return int64(uint8(x)), api.OK
	case kindUint16:
		return int64(uint16(x)), api.OK
	case kindUint32:
		return int64(uint32(x)), api.OK
	}
	return 0, api.ErrArg
}

// Shl shifts up.
func Shl(x, n int64) int64 { return x << places(n) }

// Shr shifts down, with the sign.
func Shr(x, n int64) int64 { return x >> places(n) }

// Ushr shifts down, with noughts.
func Ushr(x, n int64) int64 { return int64(uint64(x) >> places(n)) }

// Lay lays a number down as bytes, the lowest first.
func Lay(x int64, size int) (string, api.Errno) {
	if !isSize(size) {
		return "", api.ErrArg
	}
	b := make([]byte, size)
	for i := range b {
		b[i] = byte(x >> bitsOf(i))
	}
	return string(b), api.OK
}

// Take takes it up again, with its sign.
func Take(s string, size int) (int64, api.Errno) {
	if !isSize(size) || len(s) < size {
		return 0, api.ErrArg
	}
	var word uint64
	for i := range size {
		word |= uint64(s[i]) << bitsOf(i)
	}
	// Up to the top and down again with the sign: so the highest bit that was
	// taken fills all above it.
	spare := wordBits - bitsOf(size)
	return int64(word<<spare) >> spare, api.OK
}

// places is how far a shift by n goes.
func places(n int64) uint64 { return uint64(n) & placeMask }

// bitsOf is how many bits so many bytes have.
func bitsOf(bytes int) uint { return uint(bytes) << 3 }

// isSize: may a number be laid down in so many bytes?
func isSize(size int) bool {
	return size == 1 || size == 2 || size == 4 || size == 8
}
