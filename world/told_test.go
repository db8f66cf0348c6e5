package world

import (
	"reflect"
	"strings"
	"testing"

	"carousel/api"
)

// are: is just this told, a line each?
func are(t *testing.T, got []sentence, want ...string) {
	t.Helper()
	var lines []string
	for _, words := range got {
		lines = append(lines, strings.Join(words, " "))
	}
	if !reflect.DeepEqual(lines, want) {
		t.Errorf("%q, not %q", lines, want)
	}
}

// P25.2: what chapter 20's Of refuses is told by its error; no script comes to that.
func TestShapesRefused(t *testing.T) {
	c := api.Config{Raw: 1, Ring: 1, Writes: 1, Stamps: 1, Tries: 1, Regions: []api.Region{{Kind: api.KindQueue, Cap: 1}}}
	are(t, shapesTold(c, []int64{9, 0, 1, 7}), "queue 7")
	are(t, shapesTold(c, []int64{9, 0, 2, 7}), "shapes error12")
	are(t, shapesTold(c, []int64{9, 0, 1}), "shapes error1")
	c.Tries = 0
	are(t, shapesTold(c, []int64{9, 0, 1, 7}), "shapes error13")
}

// orders are events of the thread 0, each at its place.
func orders(events ...api.Event) []sentence {
	for at := range events {
		events[at].At = at
	}
	return orderTold(events)
}

// P25.2: an order is told as it is, timely and legal or not, each by itself; a world's is always both.
func TestOrderThatDoesNot(t *testing.T) {
	opened := func(tx int) api.Event { return api.Event{Kind: api.EvOpened, Tx: tx} }
	begun := func(tx int, seen int64) api.Event { return api.Event{Kind: api.EvBegun, Tx: tx, Seen: seen} }
	read := func(tx int, v int64) api.Event { return api.Event{Kind: api.EvRead, Tx: tx, Value: v} }
	wrote := func(tx int, v int64) api.Event { return api.Event{Kind: api.EvWrote, Tx: tx, Value: v} }
	ended := func(tx int) api.Event { return api.Event{Kind: api.EvEnded, Tx: tx} }
	published := func(tx int, stamp int64) api.Event {
		return api.Event{Kind: api.EvPublished, Tx: tx, Stamp: stamp}
	}
	are(t, orders(), "order", "timely yes legal yes")
	are(t, orders(opened(0), begun(0, 0), read(0, 0), ended(0)), "order 0", "timely yes legal yes")
	are(t, orders(opened(0), begun(0, 0), read(0, 5), ended(0)), "order 0", "timely yes legal no")
	// The first one says that it saw what the second one publishes only later.
	are(t, orders(opened(0), begun(0, 1), ended(0), opened(1), begun(1, 0), wrote(1, 5), published(1, 1)), "order 1 0", "timely no legal yes")
	are(t, orders(opened(0), begun(0, 1), read(0, 0), ended(0), opened(1), begun(1, 0), wrote(1, 5), published(1, 1)), "order 1 0", "timely no legal no")
	are(t, orders(opened(0), begun(0, 1), opened(1), read(0, 5), begun(1, 0), wrote(1, 5), published(1, 1)), "order 1 0", "timely yes legal yes")
	are(t, orders(begun(0, 0)), "order", "timely no legal no")
}

// P25.2: the words that stand for numbers, each of them; beside those that there are no other one comes.
func TestWordsOfNumbers(t *testing.T) {
	for kind, want := range []string{api.AnsNone: "none", api.AnsWait: "wait", api.AnsMoved: "moved", api.AnsDone: "done", api.AnsFailed: "error3"} {
		if got := answerWord(api.Answer{Kind: kind, Err: api.ErrConflict, Value: 9, Access: true}); got != want {
			t.Errorf("the answer %d: %q", kind, got)
		}
	}
	for mark, want := range []string{api.MarkRaw: "raw", api.MarkWriting: "writing", api.MarkDone: "done"} {
		if got := markWord(mark); mark > 0 && got != want {
			t.Errorf("the mark %d: %q", mark, got)
		}
	}
	for kind, want := range []string{api.KindCounter: "counter", api.KindQueue: "queue", api.KindDict: "dict", api.KindChain: "chain"} {
		if got := kindWord(kind); kind > 0 && got != want {
			t.Errorf("the kind %d: %q", kind, got)
		}
	}
	for why := api.ErrArg; why <= api.ErrHistory; why++ {
		want := "error" + strings.Fields("1 2 3 4 5 6 7 8 9 10 11 12 13 14")[why-1]
		if got := errorWord(why); got != want {
			t.Errorf("the error %d: %q", why, got)
		}
		if got := answerWord(api.Answer{Kind: api.AnsFailed, Err: why}); got != want {
			t.Errorf("failed by the error %d: %q", why, got)
		}
	}
}

// The chapter's section Ways: the lines come through a channel, in their order, and it is closed behind the last one.
func TestChannel(t *testing.T) {
	told := make(chan sentence)
	go player{}.play([]api.Line{{Kind: api.LineCells}, {Kind: api.LineWords}, {Kind: api.LineStep, Threads: []int{0}}, {Kind: api.LineRing}}, told)
	var got []sentence
	for words := range told {
		got = append(got, words)
	}
	are(t, got, "cells", "finished", "words 0", "run none", "ring 0")
	told = make(chan sentence, 1)
	player{}.play(nil, told)
	if words, more := <-told; more {
		t.Errorf("of no line %q is told", words)
	}
}
