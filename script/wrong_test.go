package script_test

import (
	"fmt"
	"math"
	"reflect"
	"slices"
	"strings"
	"testing"

	"carousel/api"
	"carousel/script"
)

// R1: any bytes, cut and joined anyhow, are answered.
func TestAnyBytes(t *testing.T) {
	seed := strewn(244)
	parts := []string{"config", "1", "2", "single", "multi", "region", "queue", "program", "end", "thread", "job", "run", "0*2", "*", "-", "cells", " ", " ", " ", "\n", "\n", "\n", "\xff", "\xe4\u00e4", "\x00", "push8 1\n", head, head, head, program}
	for range 20000 {
		text := []string{"", head, head + program, head + "program\n"}[seed.below(4)]
		for range seed.below(12) {
			text += parts[seed.below(len(parts))]
		}
		if seed.below(3) == 0 {
			text += string(rune(seed.below(1 << 17)))
		}
		holds(t, text)
	}
	for c := range 256 {
		one := string([]byte{byte(c)})
		holds(t, one)
		holds(t, one+"\n")
		for _, text := range []string{head + one + "\n", head + one, head + "cells" + one + "\n", head + "run " + one + "\n", head + "run 1" + one + "\n", head + "run 0*" + one + "\n", head + program + "thread\njob " + one + "\n", head + "program\n" + one + "\nend\n", head + "program\n" + one, head + "program\n#" + one + "\nend\n"} {
			holds(t, text)
		}
	}
}

// R1: setups and lines of any numbers are answered.
func TestAnySetup(t *testing.T) {
	seed := strewn(245)
	any := func() int {
		list := []int{math.MinInt, -1, 0, 1, 2, 3, 7, 16, 99, 100, 1 << 32, math.MaxInt}
		return list[seed.below(len(list))]
	}
	for range 5000 {
		var s api.Setup
		if seed.below(4) > 0 {
			s = with(seed.below(3))
		}
		if seed.below(3) == 0 {
			s.Config = api.Config{Raw: any(), Ring: any(), Writes: any(), Stamps: int64(any()), Tries: any()}
		}
		for range seed.below(3) {
			s.Config.Regions = append(s.Config.Regions, api.Region{Kind: any(), Cap: any()})
		}
		for range seed.below(3) {
			s.Threads = append(s.Threads, []api.Job{job(any(), int64(any()))})
		}
		var l []api.Line
		for range seed.below(4) {
			line := api.Line{Kind: any()}
			for range seed.below(3) {
				line.Threads = append(line.Threads, any())
			}
			l = append(l, line)
		}
		if text, why := script.Print(s, l); (why == api.OK) != (text != "") {
			t.Fatalf("Print(%+v, %+v): %q, error %d", s, l, text, why)
		} else if why == api.OK {
			again(t, s, l)
		}
	}
	refuses(t, api.Setup{}, nil, api.ErrArg)
	refuses(t, api.Setup{}, []api.Line{}, api.ErrArg)
	tells(t, head, api.Setup{Config: first(), Programs: []string{}, Threads: [][]api.Job{}})
	tells(t, head+"thread\n", api.Setup{Config: first(), Threads: [][]api.Job{{}}})
	if text, why := script.Print(with(0), []api.Line{}); text != head || why != api.OK {
		t.Errorf("Print without lines: %q, error %d", text, why)
	}
}

// roomy is a copy of a list, with spare room behind it.
func roomy[E any](list []E) []E {
	return append(make([]E, 0, len(list)+5), list...)
}

// spoil writes over a list, and over its spare room.
func spoil[E any](list []E, with E) {
	for i := range list[:cap(list)] {
		list[:cap(list)][i] = with
	}
}

// roomySetup and roomyLines are copies, of which each list has spare room behind it.
func roomySetup(s api.Setup) api.Setup {
	s.Config.Regions, s.Programs, s.Threads = roomy(s.Config.Regions), roomy(s.Programs), roomy(s.Threads)
	for i, jobs := range s.Threads {
		s.Threads[i] = roomy(jobs)
		for k, j := range jobs {
			s.Threads[i][k].Args = roomy(j.Args)
		}
	}
	return s
}

func roomyLines(l []api.Line) []api.Line {
	l = roomy(l)
	for i, line := range l {
		l[i].Threads = roomy(line.Threads)
	}
	return l
}

// spoilAll writes over all that a setup and lines have, the innermost lists first.
func spoilAll(s api.Setup, l []api.Line) {
	for _, jobs := range s.Threads {
		for _, j := range jobs {
			spoil(j.Args, -77)
		}
		spoil(jobs, job(5, 77))
	}
	spoil(s.Threads, []api.Job{job(6)})
	spoil(s.Programs, "\x04\x04")
	spoil(s.Config.Regions, api.Region{Kind: api.KindDict, Cap: 9})
	for _, line := range l {
		spoil(line.Threads, 88)
	}
	spoil(l, steps(44))
}

// everywhere is all that a setup and lines have, their lists' spare room too.
func everywhere(s api.Setup, l []api.Line) string {
	text := fmt.Sprintf("%v %q %v %v", s.Config.Regions[:cap(s.Config.Regions)], s.Programs[:cap(s.Programs)], s.Threads[:cap(s.Threads)], l[:cap(l)])
	for _, jobs := range s.Threads {
		text += fmt.Sprint(jobs[:cap(jobs)])
		for _, j := range jobs {
			text += fmt.Sprint(j.Args[:cap(j.Args)])
		}
	}
	for _, line := range l {
		text += fmt.Sprint(line.Threads[:cap(line.Threads)])
	}
	return text
}

// R3: what is handed in is not written into, its spare room neither.
func TestHandedIn(t *testing.T) {
	seed := strewn(246)
	for i := range 150 {
		s, l := roomySetup(seed.setup()), roomyLines(seed.lines())
		if i%5 == 0 {
			l = append(l, api.Line{Kind: 9, Threads: []int{1}})
		}
		ahead := everywhere(s, l)
		want, errno := script.Print(s, l)
		if now := everywhere(s, l); now != ahead {
			t.Fatalf("%s, not %s", now, ahead)
		}
		// Written over afterwards: the text stays, and the next call knows nothing of it.
		other, lines := plainly(s), plainLines(l)
		kept := strings.Clone(want)
		spoilAll(s, l)
		if text, why := script.Print(other, lines); want != kept || text != want || why != errno {
			t.Fatalf("%q, error %d, not %q, %d", text, why, want, errno)
		}
	}
}

// R3: what was answered is written over, with its spare room: nothing else of the answer changes, and the same call answers the same again.
func TestAnswered(t *testing.T) {
	seed := strewn(247)
	for i := range 80 {
		text := printed(t, seed.setup(), seed.lines())
		if i == 0 {
			text = example
		}
		if len(text) > api.MaxScript {
			continue
		}
		s, l, _, _ := script.Parse(text)
		was, lines := plainly(s), plainLines(l)
		// Each list by itself, ahead of those it is in.
		for a, jobs := range s.Threads {
			for b, j := range jobs {
				spoil(j.Args, -77)
				for n := range j.Args {
					was.Threads[a][b].Args[n] = -77
				}
				sameStill(t, s, was, l, lines)
			}
			spoil(jobs, job(7))
			for b := range jobs {
				was.Threads[a][b] = job(7)
			}
			sameStill(t, s, was, l, lines)
		}
		for a, line := range l {
			spoil(line.Threads, 98)
			for n := range line.Threads {
				lines[a].Threads[n] = 98
			}
			if a < 50 {
				sameStill(t, s, was, l, lines)
			}
		}
		sameStill(t, s, was, l, lines)
		for range 2 {
			holds(t, text)
			s, l, _, _ := script.Parse(text)
			spoilAll(s, l)
		}
	}
}

func sameStill(t *testing.T, s, was api.Setup, l, lines []api.Line) {
	t.Helper()
	if !same(s, was, l, lines) {
		t.Fatalf("%+v, %+v, not %+v, %+v", s, l, was, lines)
	}
}

// R4: calls know nothing of those ahead of them, in whatever order they are made.
func TestApart(t *testing.T) {
	seed := strewn(248)
	type sample struct {
		text, again string
		s           api.Setup
		l           []api.Line
		why, errno  api.Errno
		at          int
	}
	var list []sample
	for i := range 60 {
		s, l := seed.setup(), seed.lines()
		x := sample{text: printed(t, s, l)}
		if i%2 == 0 {
			x.text = seed.spoilt(x.text)
		}
		x.s, x.l, x.why, x.at = script.Parse(x.text)
		if i%3 == 0 {
			x.s.Config.Raw = 0
		}
		x.again, x.errno = script.Print(x.s, x.l)
		list = append(list, x)
	}
	for range 2000 {
		x := list[seed.below(len(list))]
		if seed.below(2) == 0 {
			if text, why := script.Print(x.s, x.l); text != x.again || why != x.errno {
				t.Fatalf("Print(%+v, %+v): %q, error %d, not %q, %d", x.s, x.l, text, why, x.again, x.errno)
			}
			continue
		}
		s, l, why, at := script.Parse(x.text)
		if why == api.OK {
			s.Config.Raw = x.s.Config.Raw
		}
		if why != x.why || at != x.at || why == api.OK && !same(s, x.s, l, x.l) {
			t.Fatalf("Parse(%q): %+v, %+v, error %d at %d", x.text, s, l, why, at)
		}
	}
}

// R2: with an error there is no setup, and no line.
func TestNothingBesideAnError(t *testing.T) {
	whole := example + "thread\n"
	for _, text := range []string{whole, example + "cells", strings.Replace(example, "config 2", "config 0", 1), example + "run 0*20000\n", strings.Replace(example, "drop", "dro", 1), full(api.MaxScript + 1), strings.Replace(example, "job 0", "job 1", 1)} {
		s, l, why, _ := script.Parse(text)
		if why == api.OK || !reflect.DeepEqual(s, api.Setup{}) || len(l) != 0 {
			t.Errorf("Parse(%q): %+v, %+v, error %d", short(text), s, l, why)
		}
	}
	for _, l := range [][]api.Line{{{Kind: api.LineCells}, {Kind: 9}}, slices.Repeat([]api.Line{{Kind: api.LineCells}}, 20000)} {
		if text, why := script.Print(with(1), l); text != "" || why == api.OK {
			t.Errorf("Print(%s): %q, error %d", brief(l), short(text), why)
		}
	}
}
