package prog_test

import (
	"math"
	"slices"
	"strings"
	"testing"

	"carousel/api"
	"carousel/mem"
	"carousel/prog"
)

// refused: there is no such job.
func refused(t *testing.T, c api.Config, code string, args []int64, want api.Errno) {
	t.Helper()
	if x, why := prog.New(c, code, args); x != nil || why != want {
		t.Errorf("New(%+v, %d bytes, %d args): %v, error %d, not %d", c, len(code), len(args), x, why, want)
	}
}

// P21.1: each number of a configuration that may not be, ahead of all else that is wrong.
func TestWrongConfigs(t *testing.T) {
	for _, wrong := range []func(c *api.Config){
		func(c *api.Config) { c.Raw = 0 }, func(c *api.Config) { c.Raw = -1 }, func(c *api.Config) { c.Raw = 65 }, func(c *api.Config) { c.Raw = math.MinInt }, func(c *api.Config) { c.Raw = math.MaxInt },
		func(c *api.Config) { c.Ring = 0 }, func(c *api.Config) { c.Ring = -1 }, func(c *api.Config) { c.Ring = 17 },
		func(c *api.Config) { c.Writes = 0 }, func(c *api.Config) { c.Writes = -1 }, func(c *api.Config) { c.Writes = 25 },
		func(c *api.Config) { c.Stamps = 0 }, func(c *api.Config) { c.Stamps = -1 }, func(c *api.Config) { c.Stamps = 1<<40 + 1 },
		func(c *api.Config) { c.Tries = 0 }, func(c *api.Config) { c.Tries = -1 }, func(c *api.Config) { c.Tries = 256 },
		func(c *api.Config) { c.Regions = []api.Region{{Kind: 0, Cap: 1}} }, func(c *api.Config) { c.Regions = []api.Region{counters(1), {Kind: 5, Cap: 1}} },
		func(c *api.Config) { c.Regions = []api.Region{queueOf(-1)} }, func(c *api.Config) { c.Regions = []api.Region{chainOf(1), dictOf(17)} },
		func(c *api.Config) { c.Regions = slices.Repeat([]api.Region{counters(1)}, 9) },
		func(c *api.Config) { *c = api.Config{} },
	} {
		c := with(2, counters(1), chainOf(1))
		made(t, c, "\x00")
		wrong(&c)
		for _, code := range []string{"", "\x00", strings.Repeat("\x00", 512), strings.Repeat("\x00", 513)} {
			for _, count := range []int{0, 1, 4, 5} {
				refused(t, c, code, make([]int64, count), api.ErrConfig)
			}
		}
	}
}

// P21.1: one byte and one argument too many, and many more.
func TestTooLong(t *testing.T) {
	c := with(2, counters(1))
	for _, length := range []int{513, 514, 1024, 65535, 65536, 65536 + 3, 1 << 20} {
		refused(t, c, strings.Repeat("\x00", length), nil, api.ErrArg)
		refused(t, c, strings.Repeat("\xff", length), make([]int64, 5), api.ErrArg)
	}
	for _, count := range []int{5, 6, 7, 8, 256, 256 + 1, 65536} {
		refused(t, c, "\x00", make([]int64, count), api.ErrArg)
		refused(t, c, "", make([]int64, count), api.ErrArg)
	}
	made(t, c, strings.Repeat("\x00", 512), make([]int64, 4)...)
	// Spare room holds neither.
	if x, why := prog.New(c, strings.Repeat("\x00", 600)[:512], make([]int64, 4, 9)); x == nil || why != api.OK {
		t.Errorf("with spare room: %v, error %d", x, why)
	}
}

// look is all that a job tells of itself.
type look struct {
	stack     []int64
	number    int
	published bool
	writes    []api.Write
	told      []api.Event
	outcome   api.Outcome
	over      bool
}

func lookAt(x *prog.Machine) look {
	l := look{stack: x.Stack(), writes: x.Writes(), told: x.Told(0)}
	l.number, l.published = x.Try()
	l.outcome, l.over = x.Outcome()
	return l
}

// stays: a job tells of itself what it told.
func stays(t *testing.T, x *prog.Machine, was look) {
	t.Helper()
	stackIs(t, x, was.stack...)
	tryIs(t, x, was.number, was.published)
	writesAre(t, x, was.writes...)
	toldIs(t, x, was.told...)
	o, over := x.Outcome()
	if over != was.over || o.Tries != was.outcome.Tries || o.Err != was.outcome.Err || !slices.Equal(o.Tells, was.outcome.Tells) {
		t.Errorf("Outcome: %+v, %v, not %+v, %v", o, over, was.outcome, was.over)
	}
}

// everywhere is a program that comes by all that a job may be busy with, over with(3, counters(2), queueOf(2)).
func everywhere(t *testing.T) string {
	t.Helper()
	return program(t, "push8 2", "load", "call sub", "push8 1", "push8 4", "cadd 0", "tell", "push8 6", "cput 1", "commit", "sub: push8 0", "push8 9", "store", "ret")
}

// otherMemories are such as a job of a configuration can't go on over.
func otherMemories(t *testing.T, cells, slots int) []*mem.Mem {
	t.Helper()
	list := []*mem.Mem{nil}
	for other := 1; other <= 16; other++ {
		if other != slots {
			list = append(list, memoryOf(t, cells, other), memoryOf(t, 1024, other))
		}
	}
	for fewer := 1; fewer < cells; fewer++ {
		list = append(list, memoryOf(t, fewer, slots))
	}
	return list
}

// P21.2: a memory that is nil, with another number of slots, or with fewer cells: wherever the job is, nothing changes, and it goes on as if that had not been.
func TestWrongMemories(t *testing.T) {
	c := with(3, counters(2), queueOf(2))
	for _, multi := range []bool{false, true} {
		c.Multi = multi
		m, like := memory(t, c), memory(t, c)
		x, same := made(t, c, everywhere(t)), made(t, c, everywhere(t))
		others := otherMemories(t, 9, 2)
		for range 100 {
			was := lookAt(x)
			for _, other := range others {
				if got := x.Step(other, 3); got != nothing() {
					t.Fatalf("%+v", got)
				}
				if other != nil && other.Count() != 0 {
					t.Fatalf("it made an access: %+v", other.Log(0))
				}
			}
			stays(t, x, was)
			if got, want := step(t, x, m, 3), step(t, same, like, 3); got != want {
				t.Fatalf("%+v, not %+v", got, want)
			}
			if t.Failed() {
				t.FailNow()
			}
		}
		endsAs(t, x, 1, api.OK, api.CodeOK)
		endsAs(t, same, 1, api.OK, api.CodeOK)
	}
}

// P21.2: a memory with more cells will do, and the further ones stay as they are.
func TestMoreCells(t *testing.T) {
	c := with(3, counters(2), queueOf(2))
	for _, count := range []int{9, 10, 11, 64, 1023, 1024} {
		m := memoryOf(t, count, 2)
		for i := 9; i < count; i++ {
			setCell(t, m, i, int64(i))
		}
		comesTo(t, made(t, c, everywhere(t)), m, api.OK, api.CodeOK)
		cells := cellsOf(t, m)
		if !slices.Equal(cells[:9], []int64{9, 0, 0, 0, 4, 0, 1, 6, 0}) {
			t.Errorf("%v", cells[:9])
		}
		for i := 9; i < count; i++ {
			if cells[i] != int64(i) {
				t.Fatalf("the cell %d is %d", i, cells[i])
			}
		}
	}
}

// R1: a nil machine, at each call.
func TestNilMachine(t *testing.T) {
	var x *prog.Machine
	for _, m := range []*mem.Mem{nil, memoryOf(t, 4, 2)} {
		if got := x.Step(m, 1); got != nothing() {
			t.Errorf("Step: %+v", got)
		}
		if m != nil && m.Count() != 0 {
			t.Errorf("%d accesses", m.Count())
		}
	}
	if o, over := x.Outcome(); over || o.Tries != 0 || o.Err != api.OK || len(o.Tells) != 0 {
		t.Errorf("Outcome: %+v, %v", o, over)
	}
	tryIs(t, x, 0, false)
	stackIs(t, x)
	writesAre(t, x)
	for _, from := range []int{math.MinInt, -1, 0, 1, math.MaxInt} {
		if got := x.Told(from); len(got) != 0 {
			t.Errorf("Told(%d): %+v", from, got)
		}
	}
}

// P21.2: a job that is over answers AnsNone, whatever memory it is handed, and tells the same for ever.
func TestOver(t *testing.T) {
	c := with(3, counters(2), queueOf(2))
	for _, code := range []string{everywhere(t), program(t, "push8 1", "push8 2", "tell", "commit"), program(t, "push8 1", "abort"), "\x01\x02\x08", ""} {
		x, m := made(t, c, code), memory(t, c)
		if _, over := toEnd(t, x, m, 200); !over {
			t.Fatalf("%x isn't over", code)
		}
		was, count := lookAt(x), m.Count()
		for range 3 {
			for _, other := range append(otherMemories(t, 9, 2), m, memory(t, c), memoryOf(t, 1024, 2)) {
				if got := x.Step(other, 3); got != nothing() {
					t.Fatalf("%+v", got)
				}
			}
		}
		stays(t, x, was)
		if m.Count() != count {
			t.Errorf("%d accesses more", m.Count()-count)
		}
	}
}

// spoil writes over a list, and over its spare room.
func spoil[E any](list []E, with E) {
	for i := range list[:cap(list)] {
		list[:cap(list)][i] = with
	}
}

// R3: what was handed in is written over afterwards: the job knows nothing of it, and wrote nothing there.
func TestHandedIn(t *testing.T) {
	regions := make([]api.Region, 2, 8)
	regions[0], regions[1] = counters(2), queueOf(2)
	args := make([]int64, 3, 9)
	args[0], args[1], args[2] = 1, 4, 6
	c := with(3, regions...)
	c.Regions = regions
	x, why := prog.New(c, program(t, "arg 0", "arg 1", "cadd 0", "tell", "tell", "arg 2", "cput 1", "tell", "arg 3", "tell", "commit"), args)
	if why != api.OK {
		t.Fatalf("error %d", why)
	}
	m := memory(t, c)
	if !slices.Equal(args[:9], []int64{1, 4, 6, 0, 0, 0, 0, 0, 0}) || !slices.Equal(regions[:8], append([]api.Region{counters(2), queueOf(2)}, make([]api.Region, 6)...)) {
		t.Errorf("%v, %v", args[:9], regions[:8])
	}
	spoil(args, -55)
	spoil(regions, dictOf(16))
	comesTo(t, x, m, api.OK, api.CodeOK, 4, api.CodeOK, 0)
	cellsAre(t, m, 0, 0, 0, 0, 4, 0, 1, 6, 0)
	if slices.ContainsFunc(args[:9], func(v int64) bool { return v != -55 }) || slices.ContainsFunc(regions[:8], func(r api.Region) bool { return r != dictOf(16) }) {
		t.Errorf("%v, %v", args[:9], regions[:8])
	}
}

// spoilAnswers writes over all lists that a job answers, and over their spare room.
func spoilAnswers(x *prog.Machine) {
	spoil(x.Stack(), -66)
	spoil(x.Writes(), api.Write{Cell: 77, Value: -66})
	for _, from := range []int{-1, 0, 1, 3, 5, 7} {
		spoil(x.Told(from), api.Event{Kind: 99})
	}
	if o, over := x.Outcome(); over {
		spoil(o.Tells, -66)
	}
}

// R3: what was answered is written over, behind each step: the job goes on as one of which nothing was asked.
func TestAnswered(t *testing.T) {
	seed := strewn(51)
	for range 100 {
		c := seed.config()
		m, like := memory(t, c), memory(t, c)
		var one, other []*prog.Machine
		for range 3 {
			code, args := seed.program(c), seed.args()
			one, other = append(one, made(t, c, code, args...)), append(other, made(t, c, code, args...))
		}
		for range 300 {
			at := seed.below(3)
			if got, want := step(t, one[at], m, at), step(t, other[at], like, at); got != want {
				t.Fatalf("%+v, not %+v", got, want)
			}
			was := lookAt(one[at])
			for range 2 {
				spoilAnswers(one[at])
			}
			// Asked twice, as what the first look got must not be what the second one gets.
			stackIs(t, one[at], was.stack...)
		}
		for i := range one {
			spoilAnswers(one[i])
			stays(t, one[i], lookAt(other[i]))
		}
	}
	x, m := made(t, with(1), program(t, "push8 1", "tell", "push8 2", "tell", "push8 7", "commit")), memory(t, with(1))
	comesTo(t, x, m, api.OK, 1, 2)
	spoilAnswers(x)
	endsAs(t, x, 1, api.OK, 1, 2)
	stackIs(t, x, 7)
}

// R4: jobs beside each other, each over a memory of its own, go as each goes alone.
func TestApart(t *testing.T) {
	seed := strewn(52)
	for range 200 {
		var jobs, twins []*prog.Machine
		var over, like []*mem.Mem
		for range 3 {
			c := seed.config()
			code, args := seed.program(c), seed.args()
			jobs, twins = append(jobs, made(t, c, code, args...)), append(twins, made(t, c, code, args...))
			over, like = append(over, memory(t, c)), append(like, memory(t, c))
		}
		answers := make([][]api.Answer, 3)
		for range 600 {
			at := seed.below(3)
			answers[at] = append(answers[at], step(t, jobs[at], over[at], at))
		}
		for i, x := range twins {
			for _, want := range answers[i] {
				if got := step(t, x, like[i], i); got != want {
					t.Fatalf("%+v, not %+v", got, want)
				}
			}
			stays(t, jobs[i], lookAt(x))
		}
	}
}
