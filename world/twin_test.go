package world_test

import (
	"cmp"
	"fmt"
	"slices"
	"strings"
	"testing"

	"carousel/api"
	"carousel/chain"
	"carousel/counter"
	"carousel/dict"
	"carousel/history"
	"carousel/place"
	"carousel/queue"
	"carousel/sched"
	"carousel/script"
)

// twin reckons a transcript anew from the chapter's words: for each line it makes a new world, and all steps up to there in it.
type twin struct {
	setup   api.Setup
	steps   []int
	answers []api.Answer
	w       *sched.World
	text    strings.Builder
}

// line tells some words, and ends their line.
func (x *twin) line(words ...any) {
	x.text.WriteString(strings.TrimRight(fmt.Sprintln(words...), "\n ") + "\n")
}

// list is numbers as words.
func list[N any](numbers []N) string {
	return strings.Trim(fmt.Sprint(numbers), "[]")
}

// reckoned is the transcript of a script.
func reckoned(t *testing.T, text string) string {
	t.Helper()
	setup, lines, why, at := script.Parse(text)
	if why != api.OK {
		t.Fatalf("Parse(%q): error %d at %d", text, why, at)
	}
	x := &twin{setup: setup}
	for _, l := range lines {
		x.steps = append(x.steps, l.Threads...)
		x.answers = nil
		x.w, _ = sched.New(setup)
		for _, thread := range x.steps {
			x.answers = append(x.answers, x.w.Step(thread))
		}
		switch l.Kind {
		case api.LineStep:
			x.run(len(l.Threads))
		case api.LineCells:
			final, _ := history.Final(x.w.Events(0), len(x.w.Cells()))
			x.line("cells", list(x.w.Cells()))
			x.line("finished", list(final))
		case api.LineShapes:
			x.shapes(t)
		case api.LineRing:
			x.ring()
		case api.LineState:
			x.state()
		case api.LineOrder:
			x.order()
		case api.LineWords:
			x.touched()
		}
	}
	return x.text.String()
}

// run tells the last steps.
func (x *twin) run(steps int) {
	words := []any{"run"}
	for _, a := range x.answers[len(x.answers)-steps:] {
		word := []string{"none", "wait", "moved", "done", "error"}[a.Kind]
		if a.Kind == api.AnsFailed {
			word += fmt.Sprint(int(a.Err))
		}
		words = append(words, word)
	}
	x.line(words...)
}

// shapes tells what each region's own cells say.
func (x *twin) shapes(t *testing.T) {
	t.Helper()
	final, _ := history.Final(x.w.Events(0), len(x.w.Cells()))
	for i, r := range x.setup.Config.Regions {
		base, _ := place.Base(x.setup.Config, i)
		size, _ := place.Size(r)
		cells := final[base : base+size]
		words := map[int]string{api.KindCounter: "counter", api.KindQueue: "queue", api.KindDict: "dict", api.KindChain: "chain"}[r.Kind]
		shapeOf := map[int]func(int, []int64) (api.Shape, api.Errno){api.KindCounter: counter.Shape, api.KindQueue: queue.Shape, api.KindDict: dict.Shape, api.KindChain: chain.Shape}[r.Kind]
		shape, why := shapeOf(r.Cap, cells)
		if why != api.OK {
			t.Fatalf("the region %d: error %d of %v", i, why, cells)
		}
		for _, pair := range shape.Pairs {
			words += fmt.Sprintf(" %d:%d", pair.Key, pair.Value)
		}
		x.line(words, list(shape.Values))
	}
}

// ring tells the entries, by what was published last and by the accesses to their slots.
func (x *twin) ring() {
	size := int64(x.setup.Config.Ring)
	var newest int64
	heads, words := map[int]int64{}, map[[2]int]uint64{}
	for _, e := range x.w.Events(0) {
		newest = max(newest, e.Stamp)
	}
	for _, a := range x.w.Log(0) {
		switch {
		case a.Kind == api.AccStore && a.Addr.Kind == api.AddrHead:
			heads[a.Addr.I] = a.Value
		case a.Kind == api.AccStore && a.Addr.Kind == api.AddrSig:
			words[[2]int{a.Addr.I, a.Addr.J}] = uint64(a.Value)
		}
	}
	first := max(1, newest-size+1)
	for stamp := first; stamp <= newest; stamp++ {
		slot := int(stamp % size)
		mark, text := "raw", strings.Repeat("0", 128)
		if head := heads[slot]; head >= 2*stamp {
			mark, text = []string{"writing", "done"}[head-2*stamp], ""
			for j := range api.SigWords {
				text += fmt.Sprintf("%016x", words[[2]int{slot, j}])
			}
		}
		x.line("entry", stamp, mark, text)
	}
	x.line("ring", newest-first+1)
}

// state tells the threads and their jobs; how many steps they made by the answers.
func (x *twin) state() {
	for number, thread := range x.w.Threads() {
		steps, waits := 0, 0
		for i, a := range x.answers {
			if x.steps[i] != number || a.Kind == api.AnsNone {
				continue
			}
			steps++
			if a.Kind == api.AnsWait {
				waits++
			}
		}
		outcomes := x.w.Outcomes(number)
		x.line("thread", number, len(outcomes), thread.Try, map[bool]string{true: "published", false: "open"}[thread.Published], steps, waits)
		for job, o := range outcomes {
			end := "ok"
			if o.Err != api.OK {
				end = fmt.Sprintf("error%d", o.Err)
			}
			x.line("job", job, o.Tries, end, list(o.Tells))
		}
	}
}

// order tells chapter 23's order, reckoned by its words.
func (x *twin) order() {
	h := x.w.Events(0)
	txs, _, _ := history.Txs(h)
	order := make([]int, len(txs))
	for i := range order {
		order[i] = i
	}
	slices.SortFunc(order, func(a, b int) int {
		x, y := placeOf(txs[a]), placeOf(txs[b])
		return cmp.Or(slices.Compare(x[:], y[:]), a-b)
	})
	timely, legal := "yes", "yes"
	for i, later := range order {
		for _, earlier := range order[i+1:] {
			if done := txs[earlier].Ended; done >= 0 && done < txs[later].Begun {
				timely = "no"
			}
		}
	}
	cells := map[int]int64{}
	for _, number := range order {
		own := map[int]int64{}
		for _, e := range h {
			if e.Tx != number {
				continue
			}
			is, wrote := own[e.Cell]
			if !wrote {
				is = cells[e.Cell]
			}
			switch {
			case e.Kind == api.EvWrote:
				own[e.Cell] = e.Value
			case e.Kind == api.EvRead && e.Value != is:
				legal = "no"
			}
		}
		for cell, v := range own {
			if txs[number].Stamp > 0 {
				cells[cell] = v
			}
		}
	}
	x.line("order", list(order))
	x.line("timely", timely, "legal", legal)
}

// placeOf is where a transaction stands in the order.
func placeOf(x api.Tx) [2]int64 {
	if x.Stamp > 0 {
		return [2]int64{x.Stamp, 0}
	}
	return [2]int64{x.Seen, 1}
}

// touched tells how often each word was accessed, by the log: of all words, from the first one on.
func (x *twin) touched() {
	log := x.w.Log(0)
	tell := func(a api.Addr, words ...any) {
		counts := map[int]int{}
		for _, access := range log {
			if access.Addr == a {
				counts[access.Kind]++
			}
		}
		if len(counts) > 0 {
			x.line(append(words, counts[api.AccLoad], counts[api.AccStore], counts[api.AccSwap])...)
		}
	}
	tell(api.Addr{Kind: api.AddrNewest}, "newest")
	for slot := range x.setup.Config.Ring {
		tell(api.Addr{Kind: api.AddrHead, I: slot}, "head", slot)
	}
	for slot := range x.setup.Config.Ring {
		for word := range api.SigWords {
			tell(api.Addr{Kind: api.AddrSig, I: slot, J: word}, "sig", slot, word)
		}
	}
	for cell := range x.w.Cells() {
		tell(api.Addr{Kind: api.AddrCell, I: cell}, "cell", cell)
	}
	x.line("words", len(log))
}

// P25.1, P25.2: random scripts, by the chapter's words; all that may be told is among it.
func TestTwin(t *testing.T) {
	seed := strewn(253)
	told := map[string]int{}
	for range 600 {
		text := seed.script()
		got, want := transcript(t, text), reckoned(t, text)
		if got != want {
			t.Fatalf("Run(%q):\n%s\nnot\n%s", text, got, want)
		}
		for _, word := range strings.Fields(got) {
			told[word]++
		}
	}
	for _, word := range strings.Fields("run none wait moved done error3 error4 error5 error6 error7 error8 cells finished counter queue dict chain entry raw writing ring thread published open job ok order timely legal yes newest head sig cell words") {
		if told[word] < 20 {
			t.Errorf("%q is told %d times only", word, told[word])
		}
	}
}
