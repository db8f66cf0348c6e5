package world_test

import (
	"fmt"
	"strings"
)

// strewn gives numbers that are spread out, the same ones each time.
type strewn uint64

func (s *strewn) below(n int) int {
	*s = *s*6364136223846793005 + 1442695040888963407
	return int(uint64(*s>>33) % uint64(n))
}

// of is one of some texts.
func (s *strewn) of(texts ...string) string {
	return texts[s.below(len(texts))]
}

// number is one of a few, so that keys and places meet, or one that lies far out.
func (s *strewn) number() string {
	if s.below(8) == 0 {
		return s.of("-9223372036854775808", "-9223372036854775807", "-300", "-2", "-1", "63", "64", "4294967296", "9223372036854775807")
	}
	return fmt.Sprint(s.below(4))
}

// bodies are programs over the plain cells, and over a counter row 0, a queue 1, a dict 2 and a chain 3.
func bodies() []string {
	return []string{
		"push8 0; load; push8 1; add; push8 0; swap; store; commit",
		"arg 0; load; arg 1; load; add; tell; commit",
		"push8 0; push8 0; load; arg 0; sub; store; push8 1; push8 1; load; arg 0; add; store; commit",
		"arg 0; arg 1; store; arg 0; load; tell; arg 0; arg 2; store; arg 0; load; tell; commit",
		"push8 2; load; push8 3; load; push8 2; load; tell; tell; tell; commit",
		"push8 0; load; tell; arg 1; arg 2; store; push8 1; load; tell; push8 2; load; tell; commit",
		"arg 0; arg 1; cadd 0; drop; tell; arg 1; cget 0; drop; tell; commit",
		"arg 2; cput 1; tell; tell; clen 1; drop; tell; commit",
		"cget 1; drop; push8 0; swap; store; commit",
		"cget 1; tell; dup; tell; push8 0; swap; cput 2; tell; tell; commit",
		"arg 0; arg 1; cput 2; drop; tell; arg 2; cdel 2; drop; tell; commit",
		"arg 1; cget 2; drop; arg 0; swap; store; clen 2; tell; tell; commit",
		"arg 0; cadd 3; drop; drop; arg 1; cnext 3; drop; tell; commit",
		"cleast 3; drop; cdel 3; drop; drop; clen 3; drop; tell; commit",
		"arg 0; chas 3; tell; tell; arg 1; cdel 3; tell; tell; arg 2; cadd 3; tell; tell; commit",
		"cleast 3; tell; dup; tell; cput 1; tell; tell; commit",
		"push8 1; load; drop; arg 0; arg 1; store; abort",
		"arg 0; load; drop; arg 0; arg 1; store; add",
		"arg 0; cadd 3; clen 7; commit",
		"push8 0; arg 0; store; push8 1; arg 0; store; push8 2; arg 0; store; push8 3; arg 0; store; commit",
		"push8 6; again: dup; load; drop; dup; arg 0; store; push8 1; sub; dup; jumpz out; jump again; out: commit",
		"push8 16; again: dup; tell; push8 1; sub; dup; jumpz out; jump again; out: push8 0; load; tell; commit",
		"commit",
	}
}

// setup is the text of a setup of several threads, whose jobs read and write the same cells and collections.
func (s *strewn) setup() string {
	stamps, writes := 1000, 24
	if s.below(6) == 0 {
		stamps = 1 + s.below(6)
	}
	if s.below(3) == 0 {
		writes = 1 + s.below(12)
	}
	text := fmt.Sprintf("config %d %d %d %d %d %s\n", 1+s.below(6), 1+s.below(6), writes, stamps, 1+s.below(9), s.of("single", "multi", "multi"))
	for _, kind := range []string{"counter", "queue", "dict", "chain"} {
		text += fmt.Sprintf("region %s %d\n", kind, s.below(5))
	}
	programs := 1 + s.below(6)
	for range programs {
		text += program(strings.ReplaceAll(s.of(bodies()...), ";", "\n"))
	}
	for range 2 + s.below(5) {
		var jobs []string
		for range s.below(5) {
			jobs = append(jobs, fmt.Sprintf("%d %s %s %s", s.below(programs), s.number(), s.number(), s.number()))
		}
		text += thread(jobs...)
	}
	return text
}

// steps are the words of so many steps at least; some threads are hasty, some are left alone for long, and some there aren't.
func (s *strewn) steps(count int) []string {
	var words []string
	haste := 1 + s.below(30)
	left := s.below(8)
	for len(words) < count {
		at := s.below(6)
		if at == left && s.below(8) != 0 {
			continue
		}
		if s.below(60) == 0 {
			at = 90 + s.below(10)
		}
		for range 1 + s.below(haste) {
			words = append(words, fmt.Sprint(at))
		}
		if s.below(20) == 0 {
			haste, left = 1+s.below(30), s.below(8)
		}
	}
	return words
}

// look is a line that looks at the world.
func (s *strewn) look() string {
	return s.of("cells\n", "shapes\n", "ring\n", "state\n", "order\n", "words\n")
}

// lines are some of all kinds, in any order.
func (s *strewn) lines() string {
	text := ""
	for range s.below(12) {
		if s.below(2) == 0 {
			text += s.look()
			continue
		}
		words := s.steps(1 + s.below(s.below(160)+1))
		if s.below(3) == 0 {
			words = append(words, fmt.Sprintf("%d*%d", s.below(6), 2+s.below(40)))
		}
		text += "run " + strings.Join(words, " ") + "\n"
	}
	return text
}

// script is any one.
func (s *strewn) script() string {
	return s.setup() + s.lines() + s.lines()
}

// spoilt is a text with something else at one place.
func (s *strewn) spoilt(text string) string {
	lines := strings.SplitAfter(text, "\n")
	at, other := s.below(len(lines)), s.below(len(lines))
	switch s.below(9) {
	case 0:
		lines[at], lines[other] = lines[other], lines[at]
	case 1:
		lines[at] += lines[other]
	case 2:
		lines[at] = ""
	case 3:
		lines = lines[:at]
	case 4:
		lines[at] += s.of("end\n", "\n", "program\ndup\n", "jump nowhere\n", "thread\n", "words\n", "run 99 5\n")
	case 5:
		return strings.Replace(text, "job ", "job "+s.of("1", "9", "-", ""), 1)
	default:
		place := s.below(len(text))
		return text[:place] + s.of(" ", "\n", "0", "1", "9", "*", "-", "x", "\xff", "e") + text[place+s.below(2):]
	}
	return strings.Join(lines, "")
}
