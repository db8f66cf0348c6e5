package world_test

import (
	"fmt"
	"strings"
	"testing"

	"carousel/api"
	"carousel/world"
)

// single and multi are configurations of two plain cells, four slots, at most 2 cells written, 9 stamps, 3 tries.
const (
	single = "config 2 4 2 9 3 single\n"
	multi  = "config 2 4 2 9 3 multi\n"
)

// program is the text of a program of these instructions.
func program(instructions ...string) string {
	return "program\n" + strings.Join(instructions, "\n") + "\nend\n"
}

// writes is a program that makes the plain cell of its first argument what its second one is; alone it takes seventeen steps, of which the sixth publishes.
func writes() string { return program("arg 0", "arg 1", "store", "commit") }

// thread is the text of a thread that has these jobs.
func thread(jobs ...string) string {
	text := "thread\n"
	for _, job := range jobs {
		text += "job " + job + "\n"
	}
	return text
}

// times is a word so many times, with a blank ahead of each.
func times(n int, word string) string {
	return strings.Repeat(" "+word, n)
}

// noughts are so many.
func noughts(n int) string {
	return strings.Repeat("0", n)
}

// plays: P25.1: just these lines are told of a script.
func plays(t *testing.T, text string, want ...string) {
	t.Helper()
	lines := ""
	for _, line := range want {
		lines += line + "\n"
	}
	if got, why, at := world.Run(text); got != lines || why != api.OK || at != 0 {
		t.Errorf("Run(%q): error %d at %d\n%s\nnot\n%s", text, why, at, got, lines)
	}
}

// transcript is what is told of a script, which must be one.
func transcript(t *testing.T, text string) string {
	t.Helper()
	got, why, at := world.Run(text)
	if why != api.OK || at != 0 {
		t.Fatalf("Run(%q): error %d at %d", text, why, at)
	}
	return got
}

// P25.1, P25.2: the chapter's first example.
func TestFirstExample(t *testing.T) {
	text := "config 1 2 2 9 3 single\nprogram\npush8 0\npush8 7\nstore\ncommit\nend\nthread\njob 0\nrun 0*2 1\ncells\nrun 0*30\ncells\norder\n"
	plays(t, text,
		"run moved moved none", "cells 0", "finished 0",
		"run"+times(14, "moved")+" done"+times(15, "none"), "cells 7", "finished 7",
		"order 0", "timely yes legal yes")
}

// P25.1, P25.2: the chapter's second example.
func TestSecondExample(t *testing.T) {
	plays(t, "config 1 2 2 9 3 single\nwords\n", "words 0")
	wrong(t, "config 1 2 2 9 3 single\nwords", api.ErrText, 24)
}

// P25.1: chapter 24's example, played.
func TestScriptsExample(t *testing.T) {
	text := "config 2 4 8 100 3 multi\nregion queue 2\nprogram\npush8 7\ncput 0\ndrop\ntell\ncommit\nend\nthread\njob 0 5 -1\nrun 0 0*12 1\ncells\n"
	// The twelfth step publishes; nothing is written back yet.
	plays(t, text, "run"+times(13, "moved")+" none", "cells 0 0 0 0 0 0", "finished 0 0 0 1 7 0")
}

// P25.1, P25.2: the script that README.md plays: two threads count in one cell, and one of them is in the other's way.
func TestCounting(t *testing.T) {
	count := program("push8 0", "load", "push8 1", "add", "dup", "tell", "push8 0", "swap", "store", "commit")
	plays(t, "config 1 2 2 9 3 single\n"+count+thread("0")+thread("0")+"run 0*4 1*3\nrun 1*10\ncells\nrun 1*11 0*10\nstate\nrun 0*26\ncells\norder\n",
		"run"+times(7, "moved"),
		"run"+times(10, "moved"),
		"cells 0", "finished 1",
		"run"+times(10, "moved")+" done"+times(9, "moved")+" error3",
		"thread 0 0 2 open 14 0", "thread 1 1 0 open 24 0", "job 0 1 ok 1",
		"run"+times(25, "moved")+" done",
		"cells 2", "finished 2",
		"order 0 1 2", "timely yes legal yes")
}

// P25.1: of a script that has no lines nothing is told, whatever its setup is.
func TestNoLines(t *testing.T) {
	for _, rest := range []string{"", "region queue 2\nregion dict 0\n", writes(), "thread\n", thread() + thread(), writes() + thread("0 1 2", "0") + thread()} {
		plays(t, single+rest)
		plays(t, multi+rest)
	}
}

// P25.1: of each line is told by itself, in the order of the script; of the same line twice, the same twice.
func TestLineByLine(t *testing.T) {
	setup := single + "region counter 1\n" + writes() + thread("0 1 -4")
	told := map[string][]string{
		"cells\n":      {"cells 0 -4 0", "finished 0 -4 0"},
		"shapes\n":     {"counter 0"},
		"ring\n":       {"entry 1 done " + sig1(), "ring 1"},
		"state\n":      {"thread 0 1 0 open 17 0", "job 0 1 ok"},
		"order\n":      {"order 0", "timely yes legal yes"},
		"words\n":      strings.Split("newest 2 0 1;head 1 0 2 0;sig 1 0 0 1 0;sig 1 1 0 1 0;sig 1 2 0 1 0;sig 1 3 0 1 0;sig 1 4 0 1 0;sig 1 5 0 1 0;sig 1 6 0 1 0;sig 1 7 0 1 0;cell 1 0 1 0;words 14", ";"),
		"run 0 99*2\n": {"run none none none"},
	}
	ran := "run" + times(16, "moved") + " done"
	for one, first := range told {
		plays(t, setup+"run 0*17\n"+one, append([]string{ran}, first...)...)
		for other, second := range told {
			want := append([]string{ran}, first...)
			want = append(want, second...)
			want = append(want, first...)
			want = append(want, first...)
			plays(t, setup+"run 0*17\n"+one+other+one+one, want...)
		}
	}
}

// P25.1: with 20000 steps, and with as many bytes as a script may have.
func TestMost(t *testing.T) {
	setup := single + program("again: jump again") + thread("0")
	plays(t, setup+"run 0*20000\nstate\n", "run"+times(20000, "moved"), "thread 0 0 1 open 20000 0")
	plays(t, setup+"run 0*19999\nrun 7\nwords\n", "run"+times(19999, "moved"), "run none", "newest 1 0 0", "words 1")
	ahead := strings.Replace(single, "\n", "\nprogram\n#\nend\n", 1)
	ahead += strings.Repeat("words\n", (api.MaxScript-len(ahead))/6)
	lines := strings.Count(ahead, "words")
	for size := len(ahead); size <= api.MaxScript; size++ {
		text := strings.Replace(ahead, "#", strings.Repeat("#", size-len(ahead)+1), 1)
		if got := transcript(t, text); len(text) != size || got != strings.Repeat("words 0\n", lines) {
			t.Errorf("of %d bytes: %d, not %d", size, len(got), lines)
		}
	}
}

// P25.1: with as many of everything as there may be.
func TestMostOfAll(t *testing.T) {
	text := "config 64 16 24 1099511627776 255 multi\n" + strings.Repeat("region dict 16\n", 8) + strings.Repeat(writes(), 16)
	text += strings.Repeat(thread(strings.Fields(strings.Repeat("15 ", 32))...), 8)
	size := 64 + 8*49
	plays(t, text+"cells\nshapes\nring\norder\nwords\nstate\n",
		"cells"+times(size, "0"), "finished"+times(size, "0"),
		"dict", "dict", "dict", "dict", "dict", "dict", "dict", "dict",
		"ring 0", "order", "timely yes legal yes", "words 0",
		"thread 0 0 0 open 0 0", "thread 1 0 0 open 0 0", "thread 2 0 0 open 0 0", "thread 3 0 0 open 0 0",
		"thread 4 0 0 open 0 0", "thread 5 0 0 open 0 0", "thread 6 0 0 open 0 0", "thread 7 0 0 open 0 0")
	got := transcript(t, text+"run 0*2400 1*2400 2*2400 3*2400 4*2400 5*2400 6*2400 7*2400\nstate\norder\n")
	for number := range 8 {
		if want := fmt.Sprintf("\nthread %d 32 0 open 6", number); !strings.Contains(got, want) {
			t.Errorf("no %q", want)
		}
	}
	if !strings.HasSuffix(got, " 254 255\ntimely yes legal yes\n") || strings.Count(got, " done") != 256 || strings.Count(got, " 1 ok\n") != 256 {
		t.Errorf("not all are through: %d and %d", strings.Count(got, " done"), strings.Count(got, " 1 ok\n"))
	}
}
