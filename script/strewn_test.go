package script_test

import (
	"math"
	"slices"
	"strings"
	"testing"

	"carousel/api"
	"carousel/code"
	"carousel/script"
)

// strewn gives numbers that are spread out, the same ones each time.
type strewn uint64

func (s *strewn) below(n int) int {
	*s = *s*6364136223846793005 + 1442695040888963407
	return int(uint64(*s>>33) % uint64(n))
}

// number is a small one, or any.
func (s *strewn) number() int64 {
	switch s.below(4) {
	case 0:
		edges := []int64{math.MinInt64, math.MinInt64 + 1, -1 << 32, -100, -99, -10, -1, 0, 9, 10, 99, 100, 255, 256, math.MaxInt64 - 1, math.MaxInt64}
		return edges[s.below(len(edges))]
	case 1:
		return int64(uint64(s.below(1<<31))<<33|uint64(s.below(1<<31))<<2) >> s.below(64)
	}
	return int64(s.below(12)) - 2
}

// regions are some that may be.
func (s *strewn) regions() []api.Region {
	var list []api.Region
	for range s.below(9) {
		list = append(list, api.Region{Kind: 1 + s.below(4), Cap: s.below(17)})
	}
	return list
}

// config is any one that may be.
func (s *strewn) config() api.Config {
	return api.Config{Raw: 1 + s.below(64), Ring: 1 + s.below(16), Writes: 1 + s.below(24), Stamps: int64(1) << s.below(41), Tries: 1 + s.below(255), Multi: s.below(2) == 0, Regions: s.regions()}
}

// anyConfig is one that may be, or one with a number that is too small or too great; none is below 0.
func (s *strewn) anyConfig() api.Config {
	c := s.config()
	if s.below(5) < 2 {
		return c
	}
	great := []int{0, 17, 25, 65, 256, 257, 1 << 32, 1<<32 + 1, 1<<40 + 1, math.MaxInt}[s.below(10)]
	switch s.below(7) {
	case 0:
		c.Raw = great
	case 1:
		c.Ring = great
	case 2:
		c.Writes = great
	case 3:
		c.Stamps = []int64{0, 1<<40 - 1, 1<<40 + 1, 1 << 41, 1<<62 + 1, math.MaxInt64}[s.below(6)]
	case 4:
		c.Tries = great
	case 5:
		c.Regions = append(c.Regions, api.Region{Kind: 1 + s.below(4), Cap: great})
	case 6:
		c.Regions = slices.Repeat([]api.Region{{Kind: 1 + s.below(4), Cap: 2}}, 8+s.below(4))
	}
	return c
}

// program is any one; its jumps and calls lead anywhere, mostly into it.
func (s *strewn) program() string {
	var list []api.Op
	text := ""
	for range s.below(1 + s.below(40)) {
		op := api.Op{Code: s.below(41)}
		if s.below(3) == 0 {
			op.Code = api.OpJump + s.below(3)
		}
		// One that takes no such operand is tried with none.
		for _, operand := range []int64{s.number(), int64(s.below(60)) - 30*int64(s.below(2)), 0} {
			op.Operand = operand
			if bytes, why, _ := code.Encode(append(list[:len(list):len(list)], op)); why == api.OK {
				list, text = append(list, op), bytes
				break
			}
		}
	}
	return text
}

// setup is any one that may be.
func (s *strewn) setup() api.Setup {
	set := api.Setup{Config: s.config()}
	for range s.below(1 + s.below(17)) {
		set.Programs = append(set.Programs, s.program())
	}
	for range s.below(9) {
		var jobs []api.Job
		if n := len(set.Programs); n > 0 {
			for range s.below(1 + s.below(33)) {
				j := job(s.below(n))
				for range s.below(5) {
					j.Args = append(j.Args, s.number())
				}
				jobs = append(jobs, j)
			}
		}
		set.Threads = append(set.Threads, jobs)
	}
	return set
}

// lines are any that may be.
func (s *strewn) lines() []api.Line {
	var list []api.Line
	left := api.MaxSteps
	for range s.below(1 + s.below(40)) {
		if s.below(2) == 0 {
			list = append(list, api.Line{Kind: 2 + s.below(6)})
			continue
		}
		var threads []int
		for range 1 + s.below(9) {
			times := 1 + s.below(3)*s.below(1+s.below(1000))
			threads = append(threads, slices.Repeat([]int{s.below(1 + s.below(100))}, times)...)
		}
		if left -= len(threads); left < 0 {
			break
		}
		list = append(list, steps(threads...))
	}
	return list
}

// spoilt is a text with something else at one place or more.
func (s *strewn) spoilt(text string) string {
	for range 1 + s.below(2) {
		lines := strings.SplitAfter(text, "\n")
		at, other := s.below(len(lines)), s.below(len(lines))
		switch s.below(11) {
		case 0:
			lines[at], lines[other] = lines[other], lines[at]
		case 1:
			lines[at] += lines[other]
		case 2:
			lines[at] = ""
		case 3:
			lines = lines[:at]
		case 4:
			lines[at] += []string{"end\n", "\n", "program\npush8 1\n", "push8 400\n", "jump nowhere\n", "thread\n", "words\n"}[s.below(7)]
		case 5, 6:
			// Behind a line of the same kind it is in the right part.
			more := []string{"job 0\n", "job 15 7\n", "region queue 3\n", "region dict 17\n", "run 0*12000\n", "run 7\n", "words\n", program, "program\npush8 400\nend\n", "job 0 1 2 3 4 5\n", strings.Repeat("thread\n", 5), strings.Repeat("job 0\n", 20), strings.Repeat(program, 9)}[s.below(13)]
			at = s.behind(lines, strings.Fields(strings.Replace(more, "program", "end", 1))[0])
			lines[at] += more
		default:
			if len(text) == 0 {
				continue
			}
			place := s.below(len(text))
			bytes := []string{" ", "\n", "0", "1", "9", "*", "-", "x", "\xff", "\t", "e", text[place : place+1]}
			add := bytes[s.below(len(bytes))]
			text = text[:place] + add + text[place+s.below(2):]
			continue
		}
		text = strings.Join(lines, "")
	}
	return text
}

// behind is the place of a line with this word first, if one is found soon; else of any.
func (s *strewn) behind(lines []string, word string) int {
	at := 0
	for range 30 {
		if at = s.below(len(lines)); strings.HasPrefix(lines[at], word) {
			break
		}
	}
	return at
}

// rewritten is a text that says the same in other ways: steps in pieces, remarks and blanks in programs.
func (s *strewn) rewritten(text string) string {
	within := false
	var list []string
	for line := range strings.Lines(text) {
		switch {
		case line == "end\n":
			within = false
		case within:
			line = []string{"", " ", "\t \t", "# end\n", "\n"}[s.below(5)] + strings.TrimSuffix(line, "\n") + []string{"", " ", " # \xff program", "\n", " \t#"}[s.below(5)] + "\n"
		case line == "program\n":
			within = true
		case strings.HasPrefix(line, "run "):
			words := strings.Fields(line)
			for i, word := range words[1:] {
				thread, times, _ := strings.Cut(word, "*")
				if n := numbersOf(times); len(n) == 1 && n[0] < 50 {
					words[i+1] = strings.TrimSpace(strings.Repeat(thread+" ", int(n[0])))
				} else if len(n) == 1 {
					words[i+1] = thread + "*" + decimal(int(n[0])-3) + " " + thread + " " + thread + "*2"
				}
			}
			line = strings.Join(words, " ") + "\n"
		}
		list = append(list, line)
	}
	return strings.Join(list, "")
}

// P24.3: there and back over random setups and lines; and over texts that say the same in other ways.
func TestThereAndBack(t *testing.T) {
	seed := strewn(249)
	others := 0
	for range 700 {
		s, l := seed.setup(), seed.lines()
		if again(t, s, l) != api.OK {
			continue
		}
		text, _ := script.Print(s, l)
		says(t, text, s, l...)
		other := seed.rewritten(text)
		if len(other) > api.MaxScript {
			continue
		}
		says(t, other, s, l...)
		if other != text {
			others++
		}
		got, lines, _, _ := script.Parse(other)
		tells(t, text, got, lines...)
	}
	if others < 300 {
		t.Errorf("just %d in other ways", others)
	}
}

// P24.1, P24.3: random texts, of which most are spoilt, by the chapter's words.
func TestSpoiltTexts(t *testing.T) {
	seed := strewn(250)
	tally := map[api.Errno]int{}
	for range 6000 {
		s, l := seed.setup(), seed.lines()
		if seed.below(3) > 0 {
			// A short one, so that what is spoilt is often not the steps.
			s.Programs, s.Threads, l = s.Programs[:min(2, len(s.Programs))], nil, l[:min(3, len(l))]
		}
		if seed.below(9) == 0 {
			s.Config = seed.anyConfig()
		}
		text := printed(t, s, l)
		if seed.below(3) == 0 {
			text = seed.rewritten(text)
		}
		tally[holds(t, seed.spoilt(text))]++
	}
	for _, why := range []api.Errno{api.OK, api.ErrText, api.ErrFull, api.ErrName, api.ErrRange, api.ErrConfig} {
		if tally[why] < 40 {
			t.Errorf("just %d are answered by the error %d: %v", tally[why], why, tally)
		}
	}
}

// P24.1: all short rows of lines, by the chapter's words.
func TestShortScripts(t *testing.T) {
	list := []string{head, "region queue 2\n", "program\n", "end\n", "thread\n", "job 0\n", "job 1 -1\n", "run 0 1\n", "cells\n", "dup\n", "x\n", "config 0 1 1 1 1 single\n"}
	tally := map[api.Errno]int{}
	var all func(text string, more int)
	all = func(text string, more int) {
		tally[holds(t, text)]++
		if more > 0 {
			for _, line := range list {
				all(text+line, more-1)
			}
		}
	}
	all("", 2)
	all(head, 4)
	all(head+program+"thread\n", 3)
	for _, why := range []api.Errno{api.OK, api.ErrText, api.ErrName} {
		if tally[why] < 40 {
			t.Errorf("just %d are answered by the error %d", tally[why], why)
		}
	}
}
