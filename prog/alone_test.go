package prog_test

import (
	"slices"
	"testing"

	"carousel/api"
	"carousel/mem"
	"carousel/plain"
	"carousel/prog"
	"carousel/ring"
)

// sameState: do cells say what a state holds?
func sameState(t *testing.T, c api.Config, m *mem.Mem, want *plain.State) bool {
	t.Helper()
	got, why := plain.Of(c, cellsOf(t, m))
	if why != api.OK {
		t.Fatalf("%+v: the cells %v: error %d", c, cellsOf(t, m), why)
	}
	return slices.Equal(got.Raw(), want.Raw()) && slices.EqualFunc(got.Shapes(), want.Shapes(), func(a, b api.Shape) bool {
		return a.Kind == b.Kind && slices.Equal(a.Values, b.Values) && slices.Equal(a.Pairs, b.Pairs)
	})
}

// writtenCells are those that events tell to be written, each once.
func writtenCells(events []api.Event) []int {
	var cells []int
	for _, e := range events {
		if e.Kind == api.EvWrote && !slices.Contains(cells, e.Cell) {
			cells = append(cells, e.Cell)
		}
	}
	return cells
}

// alone makes all steps of a job till it is over, none of which waits.
func alone(t *testing.T, x *prog.Machine, m *mem.Mem, most int) (api.Outcome, bool) {
	t.Helper()
	for range most {
		if o, over := x.Outcome(); over {
			return o, true
		}
		if answer := step(t, x, m, 5); answer.Kind == api.AnsWait || answer.Kind == api.AnsNone {
			t.Fatalf("alone: %+v", answer)
		}
	}
	return x.Outcome()
}

// mayEndSo: is an end, alone, one that the program's own end and the limits allow?
func mayEndSo(c api.Config, x *prog.Machine, o api.Outcome, newest int64, why api.Errno) bool {
	cells := writtenCells(x.Told(0))
	switch o.Err {
	case api.ErrTooBig:
		return len(cells) == c.Writes
	case api.ErrStampsSpent:
		return newest == c.Stamps && why == api.OK && len(cells) > 0
	case api.OK:
		return why == api.OK && (newest < c.Stamps || len(cells) == 0)
	}
	return o.Err == why
}

// P21.8, P21.9: programs of all kinds, run alone, one behind the other over one memory, do what they do over plain cells and collections.
func TestAlone(t *testing.T) {
	seed := strewn(21)
	ends, forEver := map[api.Errno]int{}, 0
	for range 3000 {
		c := seed.config()
		m, state := memory(t, c), mustState(t, c)
		for range 1 + seed.below(8) {
			code, args := seed.program(c), seed.args()
			x, newest := made(t, c, code, args...), ring.Newest(m)
			next := state.Copy()
			told, why, over := meant(c, code, args, next, 1500)
			if !over {
				if o, is := alone(t, x, m, 1500); is && o.Err != api.ErrTooBig {
					t.Fatalf("%+v, %x, %v: %+v, but it goes on", c, code, args, o)
				}
				forEver++
				continue
			}
			o, is := alone(t, x, m, 100000)
			if !is || o.Tries != 1 || !mayEndSo(c, x, o, newest, why) {
				t.Fatalf("%+v, %x, %v: %+v, %v, not %d", c, code, args, o, is, why)
			}
			ends[o.Err]++
			if o.Err == api.OK {
				state = next
			} else {
				told = nil
			}
			if !slices.Equal(o.Tells, told) {
				t.Fatalf("%+v, %x, %v: told %v, not %v", c, code, args, o.Tells, told)
			}
			if !sameState(t, c, m, state) {
				t.Fatalf("%+v, %x, %v: the cells are %v, not of %v and %+v", c, code, args, cellsOf(t, m), state.Raw(), state.Shapes())
			}
			if ring.Newest(m) != ring.Complete(m) {
				t.Fatalf("%+v, %x, %v: not complete", c, code, args)
			}
		}
	}
	for _, why := range []api.Errno{api.OK, api.ErrBadProgram, api.ErrOwn, api.ErrTooBig, api.ErrStampsSpent} {
		if ends[why] < 100 {
			t.Errorf("just %d ended with error %d", ends[why], why)
		}
	}
	if forEver < 20 {
		t.Errorf("just %d went on for ever", forEver)
	}
}

// mustState is a new state of a configuration that may be.
func mustState(t *testing.T, c api.Config) *plain.State {
	t.Helper()
	s, why := plain.New(c)
	if s == nil || why != api.OK {
		t.Fatalf("%+v: error %d", c, why)
	}
	return s
}

// P21.8: any bytes at all: the job comes to an end by one of five reasons, at its first try, or is never over.
func TestAnyBytes(t *testing.T) {
	seed := strewn(22)
	for range 4000 {
		c := seed.config()
		m := memory(t, c)
		code := make([]byte, seed.below(513))
		for i := range code {
			code[i] = byte(seed.below(256))
		}
		x := made(t, c, string(code), seed.args()...)
		o, over := alone(t, x, m, 500)
		if over && (o.Tries != 1 || o.Err == api.ErrConflict || o.Err == api.ErrOverrun || o.Err == api.ErrArg) {
			t.Fatalf("%+v, %x: %+v", c, code, o)
		}
	}
}

// P21.8, P21.9: a job that begins when all entries are complete is alone, though others were begun and left ahead of it.
func TestAloneBehindOthers(t *testing.T) {
	seed := strewn(23)
	for range 300 {
		c := seed.config()
		c.Stamps, c.Writes = 1<<40, 24
		m, state := memory(t, c), mustState(t, c)
		for range 20 {
			code, args := seed.sensible(c), seed.args()
			next := state.Copy()
			told, why, over := meant(c, code, args, next, 1500)
			if !over || why != api.OK {
				continue
			}
			x := made(t, c, code, args...)
			if seed.below(3) == 0 {
				alone(t, x, m, seed.below(30))
				if _, published := x.Try(); !published {
					// It is left so, and nobody hears of it.
					continue
				}
			}
			o, is := alone(t, x, m, 100000)
			if !is || o.Tries != 1 || o.Err != api.OK && o.Err != api.ErrTooBig {
				t.Fatalf("%+v, %x: %+v, %v", c, code, o, is)
			}
			if o.Err == api.OK {
				state = next
			} else {
				told = nil
			}
			if !slices.Equal(o.Tells, told) || !sameState(t, c, m, state) {
				t.Fatalf("%+v, %x: told %v, not %v; the cells are %v", c, code, o.Tells, told, cellsOf(t, m))
			}
		}
	}
}
