package dict_test

import (
	"math"
	"testing"

	"carousel/api"
	"carousel/dict"
)

// refused: there is no such call.
func refused(t *testing.T, base, most, call int, args ...int64) {
	t.Helper()
	if x, why := dict.New(base, most, call, args...); x != nil || why != api.ErrArg {
		t.Errorf("New(%d, %d, %d, %v): %v, error %d", base, most, call, args, x, why)
	}
}

// P17.2: bases from 0 to 1024, with each call; and what is none.
func TestBases(t *testing.T) {
	for _, c := range calls() {
		args := make([]int64, c.count)
		for base := 0; base <= 1024; base++ {
			for _, most := range []int{0, 1, 16} {
				cells := make([]int64, 1+3*most)
				holds(t, base, most, c.call, c.count, 0, 0, cells)
			}
		}
		for _, base := range []int{math.MinInt, math.MinInt32, -1 << 32, -1024, -2, -1, 1025, 1026, 2048, 1 << 16, 1<<16 + 1, 1 << 32, 1<<32 + 1, math.MaxInt32, math.MaxInt} {
			for _, most := range []int{0, 1, 16} {
				refused(t, base, most, c.call, args...)
			}
		}
	}
}

// P17.2: capacities from 0 to 16, with each call and base; and what is none.
func TestCapacities(t *testing.T) {
	for _, c := range calls() {
		args := make([]int64, c.count)
		for _, base := range []int{0, 10, 1024} {
			for most := 0; most <= 16; most++ {
				made(t, base, most, c.call, args...)
			}
			for _, most := range noCapacities() {
				refused(t, base, most, c.call, args...)
			}
		}
	}
}

// P17.2: calls of the other collections, and what is none, with any number of arguments.
func TestNoSuchCalls(t *testing.T) {
	others := []int{
		api.CallAdd, api.CallHas, api.CallLeast, api.CallNext,
		math.MinInt, math.MinInt32, -256 + 3, -5, -4, -3, -2, -1, 0, 9, 10, 34, 35, 36, 37, 256, 256 + 2, 256 + 3, 1<<16 + 3, 1<<32 + 2, 1<<32 + 3, 1<<32 + 4, 1<<32 + 5, math.MaxInt32, math.MaxInt,
	}
	for _, call := range others {
		for count := range 5 {
			for _, most := range []int{0, 3, 16} {
				refused(t, 10, most, call, make([]int64, count)...)
			}
		}
	}
}

// P17.2: fewer arguments, and more.
func TestArgumentCounts(t *testing.T) {
	for _, c := range calls() {
		for _, most := range []int{0, 3, 16} {
			for count := range 20 {
				if count == c.count {
					made(t, 10, most, c.call, make([]int64, count)...)
					continue
				}
				refused(t, 10, most, c.call, make([]int64, count)...)
			}
			refused(t, 10, most, c.call, make([]int64, 1000)...)
		}
	}
	refused(t, 10, 3, api.CallGet)
	refused(t, 10, 3, api.CallGet, []int64(nil)...)
	refused(t, 10, 3, api.CallGet, 1, 2)
	refused(t, 10, 3, api.CallPut, 1)
	refused(t, 10, 3, api.CallPut, 1, 2, 3)
	refused(t, 10, 3, api.CallDel)
	refused(t, 10, 3, api.CallDel, 1, 2)
	refused(t, 10, 3, api.CallLen, 1)
	made(t, 10, 3, api.CallLen, []int64(nil)...)
	// Spare room holds no arguments.
	refused(t, 10, 3, api.CallPut, make([]int64, 1, 2)...)
	refused(t, 10, 3, api.CallGet, make([]int64, 0, 1)...)
	made(t, 10, 3, api.CallLen, make([]int64, 0, 1)...)
}

// P17.2: several wrongs at once are the one error.
func TestSeveralWrongs(t *testing.T) {
	refused(t, -1, -1, 0)
	refused(t, 1025, 17, api.CallAdd, 1, 2, 3)
	refused(t, -1, 3, api.CallPut)
	refused(t, 10, 17, api.CallGet)
}

// R1: a nil machine tells nothing, again and again; such is also what a refused New gives.
func TestNilMachine(t *testing.T) {
	var x *dict.Machine
	gone, _ := dict.New(10, 3, api.CallAdd, 1, 2)
	for _, v := range edgeWords() {
		if got := x.Next(v); got != (api.Want{}) {
			t.Errorf("a nil machine, handed %d: %+v", v, got)
		}
		if got := gone.Next(v); got != (api.Want{}) {
			t.Errorf("a refused one, handed %d: %+v", v, got)
		}
	}
}

// R4: a call that was refused leaves those under way, and those that come behind it, as they are.
func TestRefusedBesideOthers(t *testing.T) {
	x := made(t, 10, 4, api.CallPut, 2, 5)
	refused(t, 10, 4, api.CallPut, 2)
	if got := x.Next(0); got != read(11) {
		t.Errorf("the first want: %+v", got)
	}
	refused(t, 10, 4, api.CallHas, 1)
	tell(t, made(t, 4, 1, api.CallLen), 0, []api.Want{read(4), done(1)}, 1)
	if got := x.Next(2); got != read(14) {
		t.Errorf("the second want: %+v", got)
	}
	shapeRefused(t, 1, []int64{1, 0, 0, 0}, api.ErrRange)
	if got := x.Next(0); got != read(10) {
		t.Errorf("the third want: %+v", got)
	}
}
