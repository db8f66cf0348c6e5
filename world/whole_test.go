package world_test

import (
	"fmt"
	"slices"
	"strconv"
	"strings"
	"testing"

	"carousel/api"
	"carousel/script"
	"carousel/world"
)

// beginsWith: P25.3: cut behind each of its lines, a script tells the beginning of what the whole tells.
func beginsWith(t *testing.T, text string) {
	t.Helper()
	whole := transcript(t, text)
	for at := range text {
		if text[at] != '\n' {
			continue
		}
		first := text[:at+1]
		_, _, is, _ := script.Parse(first)
		got, why, _ := world.Run(first)
		if why != is || !strings.HasPrefix(whole, got) {
			t.Fatalf("Run(%q): error %d, %q, which %q doesn't begin with", first, why, got, whole)
		}
		if is != api.OK {
			continue
		}
		for _, word := range []string{"run", "cells", "finished", "ring", "order", "timely", "words"} {
			line := strings.NewReplacer("finished", "cells", "timely", "order").Replace(word)
			if told, of := len(kept(got, word)), len(kept(first, line)); told != of {
				t.Fatalf("Run(%q): %q, with %q %d times, not %d", first, got, word, told, of)
			}
		}
	}
}

// P25.3: a script with every kind of line, cut behind each of its lines.
func TestBeginning(t *testing.T) {
	looks := "cells\nshapes\nring\nstate\norder\nwords\n"
	text := multi + "region dict 2\n" + writes() + reads() + thread("0 0 5", "1 1") + thread("0 1 -6")
	text += looks
	for range 12 {
		text += "run 0*2 1*3\n" + looks + "run 1\nstate\nstate\n"
	}
	beginsWith(t, text)
	beginsWith(t, single)
	beginsWith(t, single+looks)
}

// P25.3: random scripts, cut behind each of their lines.
func TestBeginnings(t *testing.T) {
	seed := strewn(254)
	for range 250 {
		beginsWith(t, seed.script())
	}
}

// P25.3: what is looked at between changes nothing; nor whether steps stand in one line or in many.
func TestLooksChangeNothing(t *testing.T) {
	seed := strewn(255)
	const looks = "cells\nshapes\nring\nstate\norder\nwords\n"
	for range 200 {
		setup := seed.setup()
		words := seed.steps(1 + seed.below(200))
		text, ran := setup, "run"
		for len(words) > 0 {
			n := 1 + seed.below(len(words))
			text += "run " + strings.Join(words[:n], " ") + "\n" + strings.Repeat(seed.look(), seed.below(3))
			words = words[n:]
		}
		var asked []string
		for line := range strings.Lines(text[len(setup):]) {
			if strings.HasPrefix(line, "run ") {
				asked = append(asked, strings.Fields(line)[1:]...)
			}
		}
		for line := range strings.Lines(transcript(t, text)) {
			if strings.HasPrefix(line, "run ") {
				ran += strings.TrimPrefix(strings.TrimSuffix(line, "\n"), "run")
			}
		}
		once := transcript(t, setup+"run "+strings.Join(asked, " ")+"\n"+looks)
		if got := transcript(t, text+looks); !strings.HasPrefix(once, ran+"\n") || !strings.HasSuffix(got, strings.TrimPrefix(once, ran+"\n")) {
			t.Fatalf("%q\n%s\nbut at once\n%s", text, got, once)
		}
	}
}

// attempt is a transaction, by what is told of steps.
type attempt struct {
	thread, job int
	end         string // empty: it is under way
}

// attempts are those of the steps of a script, by their numbers: each is opened by its first step.
func attempts(steps, answers []string, tries int) []attempt {
	var list []attempt
	at, job, tried := map[string]int{}, map[string]int{}, map[string]int{}
	for i, thread := range steps {
		if answers[i] == "none" {
			continue
		}
		if at[thread] == 0 {
			var number int
			fmt.Sscan(thread, &number)
			list = append(list, attempt{thread: number, job: job[thread]})
			at[thread] = len(list)
			tried[thread]++
		}
		if answers[i] == "moved" || answers[i] == "wait" {
			continue
		}
		list[at[thread]-1].end = answers[i]
		at[thread] = 0
		if again := answers[i] == "error3" || answers[i] == "error4"; !again || tried[thread] == tries {
			job[thread]++
			tried[thread] = 0
		}
	}
	return list
}

// parts are a setup's text as its head (the configuration, regions and programs), how often a job is tried, and of each thread its jobs.
func parts(setup string) (string, int, [][]string) {
	head, rest, _ := strings.Cut(setup, "thread\n")
	var jobs [][]string
	for _, text := range strings.Split(rest, "thread\n") {
		var list []string
		for line := range strings.Lines(text) {
			list = append(list, strings.TrimSpace(strings.TrimPrefix(line, "job ")))
		}
		jobs = append(jobs, list)
	}
	var n [4]int
	var tries int
	fmt.Sscanf(head, "config %d %d %d %d %d", &n[0], &n[1], &n[2], &n[3], &tries)
	return head, tries, jobs
}

// kept are the lines that begin with one of these words.
func kept(transcript string, words ...string) []string {
	var lines []string
	for line := range strings.Lines(transcript) {
		if slices.Contains(words, strings.Fields(line)[0]) {
			lines = append(lines, strings.TrimSpace(line))
		}
	}
	return lines
}

// P25.2, P25.3 (DOC.md's T1, T3): the jobs that committed, whole and one behind the other in the order that is told, come to the same cells and collections, and tell the same; and that order is timely and legal.
func TestOneBehindTheOther(t *testing.T) {
	seed := strewn(256)
	again, underWay, moved := 0, 0, 0
	for range 600 {
		setup := seed.setup()
		head, tries, jobs := parts(setup)
		steps := seed.steps(20 + seed.below(500))
		got := transcript(t, setup+"run "+strings.Join(steps, " ")+"\nstate\norder\ncells\nshapes\n")
		list := attempts(steps, strings.Fields(kept(got, "run")[0])[1:], tries)
		order := numbersOf(t, strings.TrimPrefix(kept(got, "order")[0], "order"))
		if len(order) != len(list) {
			t.Fatalf("%q\n%s: not %d transactions", setup, got, len(list))
		}
		threads, outcomes := kept(got, "thread"), outcomesOf(got)
		var serial, told []string
		for i, number := range order {
			if number != i {
				moved++
			}
			switch x := list[number]; {
			case x.end == "done":
				serial = append(serial, jobs[x.thread][x.job])
				told = append(told, outcomes[x.thread][x.job])
			case x.end == "" && strings.Contains(threads[x.thread], "published"):
				// What it told isn't known yet.
				serial = append(serial, jobs[x.thread][x.job])
				told = append(told, "ok")
				underWay++
			case x.end == "error3" || x.end == "error4":
				again++
			}
		}
		holdsSerial(t, setup, head, serial, got, told)
	}
	if again < 100 || underWay < 100 || moved < 100 {
		t.Errorf("just %d tried again, %d published and under way, %d not in the order of their beginnings", again, underWay, moved)
	}
}

// numbersOf are those of a text.
func numbersOf(t *testing.T, text string) []int {
	t.Helper()
	var list []int
	for _, word := range strings.Fields(text) {
		n, err := strconv.Atoi(word)
		if err != nil {
			t.Fatalf("%q: %v", text, err)
		}
		list = append(list, n)
	}
	return list
}

// outcomesOf are, of each thread, how its jobs are told to have ended, without how often they were tried.
func outcomesOf(transcript string) [][]string {
	var list [][]string
	for _, line := range kept(transcript, "thread", "job") {
		words := strings.Fields(line)
		if words[0] == "thread" {
			list = append(list, nil)
			continue
		}
		list[len(list)-1] = append(list[len(list)-1], strings.Join(words[3:], " "))
	}
	return list
}

// holdsSerial plays jobs whole, one behind the other, and holds what comes of it against what came of them beside each other.
func holdsSerial(t *testing.T, setup, head string, serial []string, got string, told []string) {
	t.Helper()
	text, runs := head, ""
	for i := 0; i < len(serial); i += api.MaxJobs {
		text += thread(serial[i:min(i+api.MaxJobs, len(serial))]...)
		runs += fmt.Sprintf("run %d*2400\n", i/api.MaxJobs)
	}
	want := transcript(t, text+runs+"state\norder\ncells\nshapes\n")
	ends := []string{"timely", "finished", "counter", "queue", "dict", "chain"}
	if one, other := kept(got, ends...), kept(want, ends...); len(other) != len(ends) || !slices.Equal(one, other) {
		t.Fatalf("%q\n%s\nbut one behind the other\n%s", setup, got, want)
	}
	alone := slices.Concat(outcomesOf(want)...)
	if len(alone) != len(told) {
		t.Fatalf("%q\n%s\nnot all are over one behind the other\n%s", setup, got, want)
	}
	for i, end := range told {
		if alone[i] != end && (end != "ok" || !strings.HasPrefix(alone[i], "ok ")) {
			t.Fatalf("%q\n%s\nthe job %d otherwise than one behind the other\n%s", setup, got, i, want)
		}
	}
}

// P25.3: of many threads that read and write the same cells and collections `timely yes legal yes` is told always, and `shapes error` never: behind each step.
func TestAlways(t *testing.T) {
	seed := strewn(257)
	looks, orders, conflicts := 0, 0, 0
	for range 600 {
		text := seed.setup()
		for _, word := range seed.steps(20 + seed.below(300)) {
			text += "run " + word + "\norder\nshapes\n"
		}
		for line := range strings.Lines(transcript(t, text)) {
			switch words := strings.Fields(line); words[0] {
			case "timely":
				if orders++; line != "timely yes legal yes\n" {
					t.Fatalf("%q: %q", text, line)
				}
			case "counter", "queue", "dict", "chain":
				looks++
			case "run":
				if strings.Contains(line, "error3") {
					conflicts++
				}
			case "order":
			default:
				t.Fatalf("%q: %q", text, line)
			}
		}
	}
	if looks != 4*orders || orders < 10000 || conflicts < 100 {
		t.Errorf("just %d orders, %d collections, %d conflicts", orders, looks, conflicts)
	}
}
