package sched_test

import (
	"fmt"
	"math"
	"strings"

	"carousel/api"
	"carousel/asm"
)

// strewn gives numbers that are spread out, the same ones each time.
type strewn uint64

func (s *strewn) below(n int) int {
	*s = *s*6364136223846793005 + 1442695040888963407
	return int(uint64(*s>>33) % uint64(n))
}

// number is one of a few, so that keys and places meet, or any.
func (s *strewn) number() int64 {
	if s.below(10) == 0 {
		edges := []int64{math.MinInt64, math.MinInt64 + 1, math.MinInt32, -32768, -129, -2, 63, 64, 255, 65536, math.MaxUint32, math.MaxInt64 - 1, math.MaxInt64}
		return edges[s.below(len(edges))]
	}
	return int64(s.below(7)) - 1
}

// config is any one that may be, with small numbers mostly.
func (s *strewn) config() api.Config {
	c := api.Config{Raw: 1 + s.below(4), Ring: 1 + s.below(4), Writes: 24, Stamps: 1 << 40, Multi: s.below(2) == 0, Tries: 1 + s.below(6)}
	if s.below(4) == 0 {
		c.Writes = 1 + s.below(8)
	}
	if s.below(5) == 0 {
		c.Stamps = int64(1 + s.below(9))
	}
	if s.below(6) == 0 {
		c.Raw, c.Ring, c.Tries = 1+s.below(64), 1+s.below(16), 1+s.below(255)
	}
	for range s.below(5) {
		c.Regions = append(c.Regions, api.Region{Kind: 1 + s.below(4), Cap: s.below(5)})
	}
	return c
}

// setup is any one that may be.
func (s *strewn) setup() api.Setup {
	setup := api.Setup{Config: s.config()}
	for range 1 + s.below(4) {
		setup.Programs = append(setup.Programs, s.program(setup.Config))
	}
	for range 1 + s.below(5) {
		setup.Threads = append(setup.Threads, nil)
	}
	for i := range setup.Threads {
		for range s.below(5) {
			job := api.Job{Program: s.below(len(setup.Programs)), Args: make([]int64, s.below(5))}
			for k := range job.Args {
				job.Args[k] = s.number()
			}
			setup.Threads[i] = append(setup.Threads[i], job)
		}
	}
	return setup
}

// schedule is which thread steps next, of so many; some are hasty, and some are left alone for long.
func (s *strewn) schedule(threads, count int) []int {
	var list []int
	haste := 1 + s.below(30)
	left := s.below(threads + 2)
	for len(list) < count {
		at := s.below(threads+1) - s.below(20)/19
		if at == left && s.below(8) != 0 {
			continue
		}
		for range 1 + s.below(haste) {
			list = append(list, at)
		}
		if s.below(40) == 0 {
			haste, left = 1+s.below(30), s.below(threads+2)
		}
	}
	return list
}

// writer writes a program down, piece by piece; each leaves the stack as it was.
type writer struct {
	seed   *strewn
	c      api.Config
	lines  []string
	labels int
}

func (w *writer) put(lines ...string) { w.lines = append(w.lines, lines...) }

// push puts any number on the stack: its own, an argument, or what a plain cell has.
func (w *writer) push() {
	switch w.seed.below(6) {
	case 0:
		w.put(fmt.Sprintf("arg %d", w.seed.below(5)))
	case 1:
		w.put(fmt.Sprintf("push8 %d", w.seed.below(8)-2), "load")
	default:
		w.put(fmt.Sprintf("push64 %d", w.seed.number()))
	}
}

// away takes a number from the stack, and tells it, perhaps.
func (w *writer) away() {
	w.put([]string{"tell", "drop", "drop"}[w.seed.below(3)])
}

// call is a collection's call, and how many arguments it has.
type call struct {
	word string
	args int
}

// asks is a collection's call.
func (w *writer) asks() {
	if len(w.c.Regions) == 0 {
		return
	}
	region := w.seed.below(len(w.c.Regions))
	calls := [][]call{{{"cadd", 2}, {"cget", 1}}, {{"cput", 1}, {"cget", 0}, {"clen", 0}},
		{{"cput", 2}, {"cput", 2}, {"cget", 1}, {"cdel", 1}, {"clen", 0}},
		{{"cadd", 1}, {"cadd", 1}, {"cdel", 1}, {"chas", 1}, {"cleast", 0}, {"cnext", 1}, {"clen", 0}}}[w.c.Regions[region].Kind-1]
	one := calls[w.seed.below(len(calls))]
	for range one.args {
		w.push()
	}
	w.put(fmt.Sprintf("%s %d", one.word, region))
	w.away()
	w.away()
}

// piece is any one; deep ones hold others.
func (w *writer) piece(depth int) {
	kinds := 10
	if depth > 2 {
		kinds = 8
	}
	switch w.seed.below(kinds) {
	case 0:
		w.push()
		w.put("load")
		w.away()
	case 1:
		w.push()
		w.push()
		w.put("store")
	case 2:
		cell := fmt.Sprintf("push8 %d", w.seed.below(4))
		w.put(cell, cell, "load", "push8 1", "add", "store")
	case 3:
		// A number is carried from one cell to another: what both sum up to stays.
		w.put("push8 0", "push8 0", "load", "push8 1", "sub", "store", "push8 1", "push8 1", "load", "push8 1", "add", "store")
	case 4:
		w.push()
		w.push()
		w.put(strings.Fields("add sub mul div rem and or xor shl shr ushr eq lt ult")[w.seed.below(14)])
		w.away()
	case 8:
		w.labels++
		out := fmt.Sprintf("L%d", w.labels)
		w.push()
		w.put("jumpz " + out)
		w.piece(depth + 1)
		w.put(out + ":")
	case 9:
		w.labels += 2
		again, out := fmt.Sprintf("L%d", w.labels-1), fmt.Sprintf("L%d", w.labels)
		w.put(fmt.Sprintf("push8 %d", 1+w.seed.below(3)), again+":")
		w.piece(depth + 1)
		w.put("push8 1", "sub", "dup", "jumpz "+out, "jump "+again, out+": drop")
	default:
		w.asks()
	}
}

// sensible is a program that mostly commits.
func (s *strewn) sensible(c api.Config) string {
	for {
		w := &writer{seed: s, c: c}
		for range 1 + s.below(6) {
			w.piece(0)
		}
		w.put(strings.Fields("commit commit commit commit commit commit commit commit abort ret jump")[s.below(11)])
		if w.lines[len(w.lines)-1] == "jump" {
			w.lines[len(w.lines)-1] = fmt.Sprintf("jump %d", s.below(60)-40)
		}
		bytes, why, _ := asm.Parse(strings.Join(w.lines, "\n"))
		if why == api.OK {
			return bytes
		}
		if why != api.ErrFull {
			panic(fmt.Sprintf("%q: error %d", w.lines, why))
		}
	}
}

// program is one of all kinds, now and then no sensible one.
func (s *strewn) program(c api.Config) string {
	bytes := []byte(s.sensible(c))
	switch s.below(10) {
	case 0:
		bytes = make([]byte, s.below(30))
		for i := range bytes {
			bytes[i] = byte(s.below(41))
		}
	case 1:
		bytes[s.below(len(bytes))] = byte(s.below(48))
	}
	return string(bytes)
}
