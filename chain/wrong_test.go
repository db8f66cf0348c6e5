package chain_test

import (
	"math"
	"testing"

	"carousel/api"
	"carousel/chain"
)

// refused: there is no such call.
func refused(t *testing.T, base, most, call int, args ...int64) {
	t.Helper()
	if x, why := chain.New(base, most, call, args...); x != nil || why != api.ErrArg {
		t.Errorf("New(%d, %d, %d, %v): %v, error %d", base, most, call, args, x, why)
	}
}

// P18.2: bases from 0 to 1024, with each call; and what is none.
func TestBases(t *testing.T) {
	for _, c := range calls() {
		args := make([]int64, c.count)
		for base := 0; base <= 1024; base++ {
			for _, most := range []int{0, 1, 16} {
				holds(t, base, most, c.call, c.count, 0, over(make([]int64, 3+2*most)))
			}
		}
		for _, base := range []int{math.MinInt, math.MinInt32, -1 << 32, -1024, -2, -1, 1025, 1026, 2048, 1 << 16, 1<<16 + 1, 1 << 32, 1<<32 + 1, math.MaxInt32, math.MaxInt} {
			for _, most := range []int{0, 1, 16} {
				refused(t, base, most, c.call, args...)
			}
		}
	}
}

// P18.2: capacities from 0 to 16, with each call and base; and what is none.
func TestCapacities(t *testing.T) {
	for _, c := range calls() {
		args := make([]int64, c.count)
		for _, base := range []int{0, 10, 1024} {
			for most := 0; most <= 16; most++ {
				made(t, base, most, c.call, args...)
			}
			for _, most := range noCapacities() {
				refused(t, base, most, c.call, args...)
			}
		}
	}
}

// P18.2: calls of the other collections, and what is none, with any number of arguments.
func TestNoSuchCalls(t *testing.T) {
	others := []int{
		api.CallGet, api.CallPut,
		math.MinInt, math.MinInt32, -256 + 1, -8, -7, -6, -5, -4, -3, -2, -1, 0, 9, 10, 33, 36, 38, 40, 256, 256 + 1, 256 + 4, 1<<16 + 1, 1<<32 + 1, 1<<32 + 4, 1<<32 + 5, 1<<32 + 6, 1<<32 + 7, 1<<32 + 8, math.MaxInt32, math.MaxInt,
	}
	for _, call := range others {
		for count := range 5 {
			for _, most := range []int{0, 3, 16} {
				refused(t, 10, most, call, make([]int64, count)...)
			}
		}
	}
}

// P18.2: fewer arguments, and more.
func TestArgumentCounts(t *testing.T) {
	for _, c := range calls() {
		for _, most := range []int{0, 3, 16} {
			for count := range 20 {
				if count == c.count {
					made(t, 10, most, c.call, make([]int64, count)...)
					continue
				}
				refused(t, 10, most, c.call, make([]int64, count)...)
			}
			refused(t, 10, most, c.call, make([]int64, 1000)...)
		}
	}
	for _, call := range []int{api.CallAdd, api.CallDel, api.CallHas, api.CallNext} {
		refused(t, 10, 3, call)
		refused(t, 10, 3, call, []int64(nil)...)
		refused(t, 10, 3, call, 1, 2)
		// Spare room holds no arguments.
		refused(t, 10, 3, call, make([]int64, 0, 1)...)
	}
	for _, call := range []int{api.CallLeast, api.CallLen} {
		refused(t, 10, 3, call, 1)
		made(t, 10, 3, call, []int64(nil)...)
		made(t, 10, 3, call, make([]int64, 0, 1)...)
	}
}

// P18.2: several wrongs at once are the one error.
func TestSeveralWrongs(t *testing.T) {
	refused(t, -1, -1, 0)
	refused(t, 1025, 17, api.CallPut, 1, 2, 3)
	refused(t, -1, 3, api.CallAdd)
	refused(t, 10, 17, api.CallLen, 1)
}

// R1: a nil machine tells nothing, again and again; such is also what a refused New gives.
func TestNilMachine(t *testing.T) {
	var x *chain.Machine
	gone, _ := chain.New(10, 3, api.CallPut, 1, 2)
	for _, v := range edgeWords() {
		if got := x.Next(v); got != (api.Want{}) {
			t.Errorf("a nil machine, handed %d: %+v", v, got)
		}
		if got := gone.Next(v); got != (api.Want{}) {
			t.Errorf("a refused one, handed %d: %+v", v, got)
		}
	}
}

// R4: a call that was refused leaves those under way, and those that come behind it, as they are.
func TestRefusedBesideOthers(t *testing.T) {
	x := made(t, 10, 4, api.CallDel, 2)
	refused(t, 10, 4, api.CallDel)
	if got := x.Next(0); got != read(10) {
		t.Errorf("the first want: %+v", got)
	}
	refused(t, 10, 4, api.CallGet, 1)
	tell(t, made(t, 4, 1, api.CallLen), 0, []api.Want{read(4), read(8), done(1)}, 1, 0)
	if got := x.Next(2); got != read(15) {
		t.Errorf("the second want: %+v", got)
	}
	shapeRefused(t, 1, []int64{1, 0, 0, 0, 0}, api.ErrRange)
	if got := x.Next(2); got != read(16) {
		t.Errorf("the third want: %+v", got)
	}
}
