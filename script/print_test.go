package script_test

import (
	"fmt"
	"math"
	"slices"
	"strings"
	"testing"

	"carousel/api"
	"carousel/asm"
	"carousel/place"
	"carousel/sched"
	"carousel/script"
)

// far are numbers that lie about.
func far() []int {
	return []int{math.MinInt, math.MinInt + 1, -1 << 32, -65536, -257, -256, -101, -100, -99, -2, 100, 101, 127, 128, 255, 256, 257, 65535, 65536, 1 << 31, 1<<32 - 1, 1 << 32, 1<<32 + 1, 1<<32 + 7, math.MaxInt - 1, math.MaxInt}
}

// P24.2: steps of no thread; of threads below 0, and above 99, at each place of a line.
func TestNoSteps(t *testing.T) {
	s := with(1)
	for _, l := range [][]api.Line{{steps()}, {{Kind: api.LineStep, Threads: []int{}}}, {{Kind: api.LineStep, Threads: make([]int, 0, 9)}}, {steps(0), steps()}, {steps(), {Kind: api.LineCells}}} {
		refuses(t, s, l, api.ErrArg)
	}
	for _, thread := range append(far(), -1) {
		for _, l := range [][]api.Line{{steps(thread)}, {steps(thread, thread)}, {steps(0, thread)}, {steps(0, thread, 99)}, {steps(thread, 5)}, {steps(7), {Kind: api.LineWords}, steps(7, 7, 7, thread)}} {
			refuses(t, s, l, api.ErrArg)
		}
	}
	for thread := range 100 {
		tells(t, head+program+"run "+decimal(thread)+"\n", s, steps(thread))
		tells(t, head+program+"run "+decimal(thread)+"*3\n", s, steps(thread, thread, thread))
	}
}

// P24.2: other lines than steps have none.
func TestLooksHaveNoSteps(t *testing.T) {
	for kind := api.LineCells; kind <= api.LineWords; kind++ {
		tells(t, head+looks[kind]+"\n", with(0), api.Line{Kind: kind, Threads: []int{}})
		tells(t, head+looks[kind]+"\n", with(0), api.Line{Kind: kind, Threads: make([]int, 0, 5)})
		for _, threads := range [][]int{{0}, {1}, {99}, {-1}, {100}, {0, 0}, make([]int, api.MaxSteps), make([]int, api.MaxSteps+1)} {
			refuses(t, with(0), []api.Line{{Kind: kind, Threads: threads}}, api.ErrArg)
			refuses(t, with(0), []api.Line{{Kind: kind}, steps(1), {Kind: kind, Threads: threads}, {Kind: kind}}, api.ErrArg)
		}
	}
}

// P24.2: there are seven kinds of lines.
func TestKindsOfLines(t *testing.T) {
	for _, kind := range append(far(), -7, -1, 0, 8, 9, 10) {
		for _, threads := range [][]int{nil, {}, {0}, {5, 5}} {
			refuses(t, with(0), []api.Line{{Kind: kind, Threads: threads}}, api.ErrArg)
			refuses(t, with(0), []api.Line{{Kind: api.LineCells}, {Kind: kind, Threads: threads}, steps(1)}, api.ErrArg)
		}
	}
	for kind := -300; kind <= 300; kind++ {
		for _, line := range []api.Line{{Kind: kind}, steps(4)} {
			line.Kind = kind
			text, why := script.Print(with(0), []api.Line{line})
			if may := kind >= 1 && kind <= 7 && (kind == 1) == (len(line.Threads) > 0); may != (why == api.OK) || may != (text != "") {
				t.Errorf("the kind %d: %q, error %d", kind, text, why)
			}
		}
	}
}

// P24.2: as many steps as there may be, in one line and in many, and one more.
func TestMostStepsAsText(t *testing.T) {
	row := func(thread, n int) api.Line { return steps(slices.Repeat([]int{thread}, n)...) }
	look := api.Line{Kind: api.LineRing}
	tells(t, head+"run 0*20000\n", with(0), row(0, 20000))
	tells(t, head+"run 0*19999\nrun 1\n", with(0), row(0, 19999), steps(1))
	tells(t, head+"ring\nrun 0*10000\nring\nrun 0*10000\nring\n", with(0), look, row(0, 10000), look, row(0, 10000), look)
	tells(t, head+strings.Repeat("run 5*100\n", 200), with(0), slices.Repeat([]api.Line{row(5, 100)}, 200)...)
	for _, l := range [][]api.Line{
		{row(0, 20001)}, {row(0, 20000), steps(0)}, {steps(0), row(0, 20000)}, {row(0, 20000), look, steps(1)}, {row(3, 19999), steps(1, 2)}, {row(0, 10000), row(1, 10001)}, {row(0, 20000), row(0, 20000)}, {row(0, 1<<17)},
		slices.Repeat([]api.Line{row(5, 100)}, 201), append(slices.Repeat([]api.Line{row(5, 100)}, 200), look, steps(5)), slices.Repeat([]api.Line{steps(1)}, 20001),
	} {
		refuses(t, with(0), l, api.ErrArg)
	}
}

// P24.2: programs that chapter 14's Print refuses.
func TestNoPrograms(t *testing.T) {
	for _, bytes := range []string{"\xff", "\x29", "\x01", "\x02\x00", "\x03\x00", "\x17\x06", "\x00\x80", "\x00\x01", strings.Repeat("\x00", 513), strings.Repeat("\x00", 65536), strings.Repeat("\x00", 511) + "\x01", "program\n"} {
		if _, why := asm.Print(bytes); why == api.OK {
			t.Errorf("%x is a program", bytes)
		}
		for _, programs := range [][]string{{bytes}, {"\x00", bytes}, {bytes, "\x00"}, {"", bytes, ""}, append(slices.Repeat([]string{"\x00"}, 15), bytes)} {
			s := with(0, []api.Job{job(0)})
			s.Programs = programs
			refuses(t, s, nil, api.ErrArg)
			refuses(t, s, []api.Line{{Kind: api.LineCells}, steps(1, 1)}, api.ErrArg)
		}
	}
	s := with(1)
	s.Programs[0] = strings.Repeat("\x00", 512)
	tells(t, head+"program\n"+strings.Repeat("commit\n", 512)+"end\n", s)
}

// P24.2: setups that chapter 22's New refuses, each for one reason.
func TestNoSetups(t *testing.T) {
	for at := range 5 {
		for _, n := range append(far(), -1, 0, 65, 17, 25) {
			s := with(1)
			c := &s.Config
			switch at {
			case 0:
				c.Raw = n
			case 1:
				c.Ring = n
			case 2:
				c.Writes = n
			case 3:
				c.Stamps = int64(n)
			case 4:
				c.Tries = n
			}
			setupHolds(t, s)
		}
	}
	for _, regions := range [][]api.Region{{{Kind: 0, Cap: 1}}, {{Kind: 5, Cap: 1}}, {{Kind: -1, Cap: 1}}, {{Kind: 1, Cap: -1}}, {{Kind: 1, Cap: 17}}, {{Kind: 4, Cap: math.MaxInt}}, {{Kind: 1, Cap: 16}, {}}, make([]api.Region, 9), slices.Repeat([]api.Region{{Kind: 1}}, 9), slices.Repeat([]api.Region{{Kind: 1}}, 256), slices.Repeat([]api.Region{{Kind: 1}}, 8), {{Kind: 1 << 32, Cap: 1}}} {
		s := with(1)
		s.Config.Regions = regions
		setupHolds(t, s)
	}
	refuses(t, api.Setup{}, nil, api.ErrArg)
	for _, count := range []int{16, 17, 18, 256, 272} {
		setupHolds(t, with(count))
		setupHolds(t, with(count, []api.Job{job(16)}))
		setupHolds(t, with(count, []api.Job{job(15)}))
	}
	for _, count := range []int{8, 9, 10, 256, 264} {
		setupHolds(t, with(1, make([][]api.Job, count)...))
		setupHolds(t, with(1, slices.Repeat([][]api.Job{{job(0)}}, count)...))
	}
	for _, count := range []int{32, 33, 256, 288} {
		setupHolds(t, with(1, slices.Repeat([]api.Job{job(0)}, count)))
		setupHolds(t, with(1, nil, []api.Job{job(0)}, slices.Repeat([]api.Job{job(0)}, count)))
	}
	for _, count := range []int{4, 5, 6, 256, 260} {
		setupHolds(t, with(1, []api.Job{job(0, make([]int64, count)...)}))
		setupHolds(t, with(1, nil, []api.Job{job(0, 1), job(0, make([]int64, count)...), job(0)}))
	}
	for programs := range 4 {
		for _, number := range append(far(), -1, 0, 1, 2, 3, 4, 16) {
			setupHolds(t, with(programs, []api.Job{job(number)}))
			setupHolds(t, with(programs, nil, []api.Job{job(0), job(number, 1, 2)}))
		}
	}
}

// setupHolds: P24.2: a setup is told if chapter 22's New takes it, and chapter 14's Print its programs; lines are then told behind it.
func setupHolds(t *testing.T, s api.Setup) bool {
	t.Helper()
	_, why := sched.New(s)
	may := why == api.OK
	for _, bytes := range s.Programs {
		_, why := asm.Print(bytes)
		may = may && why == api.OK
	}
	for _, l := range [][]api.Line{nil, {{Kind: api.LineState}}, {steps(1, 1), {Kind: api.LineWords}}} {
		if may {
			again(t, s, l)
		} else {
			refuses(t, s, l, api.ErrArg)
		}
	}
	return may
}

// P24.2: random setups, of which some are spoilt at one place.
func TestSpoiltSetups(t *testing.T) {
	seed := strewn(242)
	may := 0
	for range 1500 {
		s := seed.setup()
		switch seed.below(8) {
		case 0:
			s.Config = seed.anyConfig()
			s.Config.Tries -= seed.below(3)
		case 1:
			s.Programs = append(s.Programs, slices.Repeat(s.Programs, seed.below(4))...)
		case 2:
			s.Threads = append(s.Threads, s.Threads...)
		case 3:
			if len(s.Programs) > 0 {
				at := seed.below(len(s.Programs))
				bytes := []byte(s.Programs[at] + "\x00")
				bytes[seed.below(len(bytes))] = byte(seed.below(256))
				s.Programs[at] = string(bytes)
			}
		case 4:
			if len(s.Threads) > 0 {
				at := seed.below(len(s.Threads))
				s.Threads[at] = append(s.Threads[at], job(seed.below(17)-1, make([]int64, seed.below(7))...))
			}
		case 5:
			if len(s.Threads) > 0 {
				at := seed.below(len(s.Threads))
				s.Threads[at] = append(s.Threads[at], slices.Repeat(s.Threads[at], seed.below(9))...)
			}
		}
		if setupHolds(t, s) {
			may++
		}
	}
	if may < 500 || may > 1300 {
		t.Errorf("%d of 1500 may be", may)
	}
}

// P24.2: a text of MaxScript bytes, and of one more, whatever it has most of.
func TestLongestText(t *testing.T) {
	looking := func(kind, n int) []api.Line { return slices.Repeat([]api.Line{{Kind: kind}}, n) }
	// 65535 less the head's 25 bytes are 65510: 13102 lines of five bytes.
	most := looking(api.LineRing, 13102)
	tells(t, head+strings.Repeat("ring\n", 13102), with(0), most...)
	refuses(t, with(0), append(slices.Clone(most), api.Line{Kind: api.LineRing}), api.ErrFull)
	for _, kind := range []int{api.LineCells, api.LineShapes, api.LineState, api.LineOrder, api.LineWords} {
		l := slices.Clone(most)
		l[5000] = api.Line{Kind: kind}
		refuses(t, with(0), l, api.ErrFull)
	}
	s := with(0)
	s.Config.Stamps = 1000
	refuses(t, s, most, api.ErrFull)
	s.Config.Stamps, s.Config.Multi = 100, false
	refuses(t, s, most, api.ErrFull)
	s.Config.Stamps = 10
	tells(t, "config 2 4 8 10 3 single\n"+strings.Repeat("ring\n", 13102), s, most...)
	s = with(1)
	refuses(t, s, most, api.ErrFull)
	refuses(t, with(0, nil), most, api.ErrFull)
	// One byte more in a job's argument, in a step, in how many there are.
	for _, x := range []struct {
		s    api.Setup
		last api.Line
		want int
	}{
		{with(1, []api.Job{job(0, 9)}), steps(1), 0}, {with(1, []api.Job{job(0, 10)}), steps(1), 1}, {with(1, []api.Job{job(0, -9)}), steps(1), 1}, {with(1, []api.Job{job(0, 9)}), steps(10), 1},
		{with(1, []api.Job{job(0, 9)}), steps(1, 2), 2}, {with(1, []api.Job{job(0, 9)}), steps(1, 1), 2}, {with(1, []api.Job{job(0, 9)}), steps(slices.Repeat([]int{1}, 10)...), 3},
	} {
		for size := 65530; size <= 65540; size++ {
			l := []api.Line{x.last}
			// Filled up by lines of five and of six bytes.
			spare := size - len(printed(t, x.s, l)) + x.want
			l = append(l, looking(api.LineCells, spare%5)...)
			l = append(l, looking(api.LineRing, (spare-6*(spare%5))/5)...)
			if n := len(printed(t, x.s, l)); n != size+x.want {
				t.Fatalf("%d bytes, not %d", n, size+x.want)
			}
			if why := again(t, x.s, l); (why == api.OK) != (size+x.want <= 65535) {
				t.Errorf("%d bytes: error %d", size+x.want, why)
			}
		}
	}
	// Much more.
	refuses(t, with(0), looking(api.LineWords, 1<<20), api.ErrFull)
	// What may not be is told first.
	refuses(t, with(0), append(looking(api.LineWords, 1<<16), api.Line{}), api.ErrArg)
	refuses(t, with(0, []api.Job{job(0)}), looking(api.LineWords, 1<<16), api.ErrArg)
	refuses(t, with(17), looking(api.LineWords, 1<<16), api.ErrArg)
	refuses(t, api.Setup{}, looking(api.LineWords, 1<<16), api.ErrArg)
	s = with(1)
	s.Programs[0] = "\xff"
	refuses(t, s, looking(api.LineWords, 1<<16), api.ErrArg)
}

// P24.2, P24.3: what is long by its programs, its jobs and its steps alone.
func TestLongParts(t *testing.T) {
	// 16 programs of 170 calls, each to the place behind it, which have 16 bytes and a label each.
	var bytes []byte
	for at := range 170 {
		bytes = append(bytes, byte(api.OpCall), byte(3*(at+1)), byte(3*(at+1)>>8))
	}
	s := with(0)
	for n := 1; n <= 16; n++ {
		s.Programs = slices.Repeat([]string{string(bytes)}, n)
		again(t, s, nil)
	}
	s.Programs = slices.Repeat([]string{strings.Repeat("\x25\x00", 256)}, 16)
	again(t, s, nil)
	s.Programs = slices.Repeat([]string{strings.Repeat("\x0b\x05", 256)}, 16)
	again(t, s, nil)
	s.Programs = slices.Repeat([]string{strings.Repeat("\x00", 512)}, 16)
	if again(t, s, nil) != api.OK {
		t.Error("16 programs of 512 instructions have no text")
	}
	// 256 jobs of four arguments.
	s = with(16)
	for range api.MaxThreads {
		s.Threads = append(s.Threads, slices.Repeat([]api.Job{job(15, math.MinInt64, math.MinInt64, math.MinInt64, math.MinInt64)}, api.MaxJobs))
	}
	if again(t, s, nil) != api.OK {
		t.Error("256 jobs have no text")
	}
	// Steps of threads that take turns: 20000 of them have 60000 bytes at most.
	for _, two := range [][]int{{10, 11}, {1, 2}, {9, 10}} {
		if again(t, with(0), []api.Line{steps(slices.Repeat(two, api.MaxSteps/2)...)}) != api.OK {
			t.Errorf("20000 steps of %d have no text", two)
		}
		again(t, s, []api.Line{steps(slices.Repeat(two, api.MaxSteps/2)...)})
	}
}

// P24.2: whatever the configuration is, its words stand in its line.
func TestConfigsAsText(t *testing.T) {
	seed := strewn(243)
	for range 2000 {
		c := seed.anyConfig()
		if place.Check(c) != api.OK {
			continue
		}
		again(t, api.Setup{Config: c}, nil)
	}
	for kind, word := range map[int]string{api.KindCounter: "counter", api.KindQueue: "queue", api.KindDict: "dict", api.KindChain: "chain"} {
		for most := range api.MaxCap + 1 {
			s := with(0)
			s.Config.Regions = []api.Region{{Kind: kind, Cap: most}}
			tells(t, head+fmt.Sprintf("region %s %d\n", word, most), s)
		}
	}
}
