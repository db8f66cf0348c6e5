package world_test

import (
	"runtime"
	"strings"
	"sync"
	"testing"
	"time"

	"carousel/api"
	"carousel/script"
	"carousel/world"
)

// wrong: P25.1: this is what is wrong with a text, and nothing is told.
func wrong(t *testing.T, text string, want api.Errno, place int) {
	t.Helper()
	if got, why, at := world.Run(text); got != "" || why != want || at != place {
		t.Errorf("Run(%q): %q, error %d at %d, not %d at %d", text[:min(len(text), 300)], got, why, at, want, place)
	}
}

// behind: P25.1: so it is with what stands behind a text that is right: the place is one of the rest.
func behind(t *testing.T, ahead, rest string, want api.Errno, place int) {
	t.Helper()
	if got, why, at := world.Run(ahead); why != api.OK || at != 0 {
		t.Errorf("Run(%q): %q, error %d at %d", ahead, got, why, at)
	}
	wrong(t, ahead+rest, want, len(ahead)+place)
}

// P25.1: the empty text, and texts that are no scripts.
func TestNoScript(t *testing.T) {
	for _, text := range []string{"", "\n", " ", "\x00", "\xff", "words", "words\n", "config\n", "run 0\n", "end\n", "config 1 2 2 9 3\n", "config 01 2 2 9 3 single\n", "config 1 2 2 9 3 single", "\n" + single} {
		wrong(t, text, api.ErrText, 0)
	}
}

// P25.1: each of the errors that Parse answers, with its place.
func TestFaults(t *testing.T) {
	ran := single + writes() + thread("0") + "run 0*30\ncells\n"
	behind(t, ran, "dance\n", api.ErrText, 0)
	behind(t, ran, "cells 1\n", api.ErrText, 0)
	behind(t, ran, "run 100\n", api.ErrText, 0)
	behind(t, ran, "run 0*1\n", api.ErrText, 0)
	behind(t, ran, thread(), api.ErrText, 0)
	behind(t, ran, single, api.ErrText, 0)
	behind(t, ran, "words\nwords", api.ErrText, 6)
	behind(t, single, "program\ndup\n", api.ErrText, 12)
	behind(t, single, "program\nnop\nend\n", api.ErrText, 8)
	behind(t, ran, "run 0*19971\n", api.ErrFull, 0)
	behind(t, ran+"run 7*19970\n", "run 0\n", api.ErrFull, 0)
	behind(t, single+strings.Repeat(thread(), 8), thread(), api.ErrFull, 0)
	behind(t, single+strings.Repeat(writes(), 16), writes(), api.ErrFull, 0)
	behind(t, single+writes()+thread(strings.Fields(strings.Repeat("0 ", 32))...), "job 0\n", api.ErrFull, 0)
	behind(t, single+writes()+thread(), "job 0 1 2 3 4 5\n", api.ErrFull, 0)
	behind(t, single, program(strings.Fields(strings.Repeat("dup ", 513))...), api.ErrFull, 8+4*512)
	behind(t, single+writes()+thread("0"), "job 1\n", api.ErrName, 0)
	behind(t, single, program("jump nowhere"), api.ErrName, 13)
	behind(t, single, program("a:", "a:"), api.ErrName, 11)
	behind(t, single, program("dup", "push8 128"), api.ErrRange, 18)
	wrong(t, "config 0 2 2 9 3 single\nrun 0\n", api.ErrConfig, 0)
	wrong(t, "config 1 17 2 9 3 single\n", api.ErrConfig, 0)
	wrong(t, "config 1 2 25 9 3 single\n", api.ErrConfig, 0)
	wrong(t, "config 1 2 2 1099511627777 3 single\n", api.ErrConfig, 0)
	wrong(t, "config 1 2 2 9 256 single\n", api.ErrConfig, 0)
	wrong(t, single+strings.Repeat("region queue 1\n", 9), api.ErrConfig, 0)
	wrong(t, single+"region queue 17\n", api.ErrConfig, 0)
	wrong(t, strings.Repeat("x", api.MaxScript+1), api.ErrText, api.MaxScript)
	wrong(t, single+strings.Repeat("cells\n", 11000), api.ErrText, api.MaxScript)
}

// P25.1: of random texts, most of them spoilt, it is as Parse says.
func TestSpoilt(t *testing.T) {
	seed := strewn(251)
	tally := map[api.Errno]int{}
	for range 3000 {
		text := seed.spoilt(seed.script())
		_, _, why, place := script.Parse(text)
		tally[why]++
		if why == api.OK {
			transcript(t, text)
		} else {
			wrong(t, text, why, place)
		}
	}
	for _, why := range []api.Errno{api.OK, api.ErrText, api.ErrName} {
		if tally[why] < 20 {
			t.Errorf("just %d are answered by the error %d: %v", tally[why], why, tally)
		}
	}
}

// P25.3 (DOC.md's R4): the transcript hangs on the script alone: not on others that were played ahead of it, nor on those that are played at the same time.
func TestScriptAlone(t *testing.T) {
	seed := strewn(252)
	var scripts, told []string
	for range 40 {
		text := seed.script()
		scripts, told = append(scripts, text), append(told, transcript(t, text))
	}
	for range 300 {
		at := seed.below(len(scripts))
		if got := transcript(t, scripts[at]); got != told[at] {
			t.Fatalf("Run(%q):\n%s\nnot\n%s", scripts[at], got, told[at])
		}
		if seed.below(3) == 0 {
			wrong(t, scripts[at]+"dance\n", api.ErrText, len(scripts[at]))
		}
	}
	var all sync.WaitGroup
	for first := range 8 {
		all.Go(func() {
			for i := range scripts {
				at := (i*7 + first*5) % len(scripts)
				if got, why, _ := world.Run(scripts[at]); got != told[at] || why != api.OK {
					t.Errorf("Run(%q):\n%s\nnot\n%s", scripts[at], got, told[at])
				}
			}
		})
	}
	all.Wait()
}

// P25.1: behind a call nothing goes on any more.
func TestNothingGoesOn(t *testing.T) {
	before := runtime.NumGoroutine()
	for range 200 {
		transcript(t, single+writes()+thread("0")+"run 0*30\nwords\n")
		wrong(t, single+"dance\n", api.ErrText, len(single))
	}
	// One that has sent its last line may be about to end.
	for range 100 {
		if runtime.NumGoroutine() <= before {
			return
		}
		time.Sleep(10 * time.Millisecond)
	}
	t.Errorf("%d go on, not %d", runtime.NumGoroutine(), before)
}
