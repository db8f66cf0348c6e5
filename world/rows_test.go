package world_test

import (
	"strings"
	"testing"
)

// reads is a program that tells the plain cell of its argument.
func reads() string { return program("arg 0", "load", "tell", "commit") }

// The signatures of the cells 0, 1 and 2, as text: their bits are 0, 360 and 117.
func sig0() string { return noughts(15) + "1" + noughts(112) }
func sig1() string { return noughts(80) + "0000010000000000" + noughts(32) }
func sig2() string { return noughts(16) + "0020000000000000" + noughts(96) }

// P25.2, LineStep: a step of a thread that there isn't, of one without jobs, of one that is through.
func TestStepsNone(t *testing.T) {
	plays(t, single+"run 0\n", "run none")
	plays(t, single+"run 0 1 99*3 7\nrun 5\n", "run none none none none none none", "run none")
	plays(t, single+thread()+"run 0 0 1\n", "run none none none")
	plays(t, single+program("commit")+thread("0")+"run 0 0 0 1\nrun 0*4\n", "run moved done none none", "run none none none none")
}

// P25.2, LineStep: steps that move on, that wait, and by which a job is over.
func TestStepsWait(t *testing.T) {
	text := single + writes() + thread("0 0 5") + thread("0 1 6")
	plays(t, text+"run 0*6 1*8\nrun 1 0*11\nrun 1*12 0\nrun 1 1\n",
		"run"+times(12, "moved")+" wait wait",
		"run wait"+times(10, "moved")+" done",
		"run"+times(12, "moved")+" none",
		"run done none")
	// Each of the threads waits for its own reasons: 1 for 0's signature, and for it to be complete.
	text = strings.Replace(text, single, multi, 1)
	plays(t, text+"run 0*7 1*18\nrun 0*9 1*6\nrun 0*2 1*2\n",
		"run"+times(24, "moved")+" wait",
		"run"+times(12, "moved")+" wait wait wait",
		"run moved done moved done")
}

// P25.2, LineStep: the numbers that stand behind error.
func TestStepsError(t *testing.T) {
	// What was read is written by another one.
	text := reads() + writes() + thread("0 0") + thread("1 0 5", "1 0 6")
	plays(t, single+text+"run 0*3 1*17 0*3\nrun 0*7\nstate\n",
		"run"+times(19, "moved")+" done moved moved error3",
		"run"+times(6, "moved")+" done",
		"thread 0 1 0 open 13 0", "job 0 2 ok 5", "thread 1 1 0 open 17 0", "job 0 1 ok")
	// Two entries are newer, and the ring has one slot.
	plays(t, "config 2 1 2 9 1 single\n"+text+"run 0*3 1*17 1*19 0 0\nstate\n",
		"run"+times(19, "moved")+" done"+times(18, "moved")+" done error4 none",
		"thread 0 1 0 open 4 0", "job 0 1 error4", "thread 1 2 0 open 36 0", "job 0 1 ok", "job 1 1 ok")
	plays(t, "config 2 1 1 9 3 single\n"+program("push8 0", "dup", "store", "push8 1", "dup", "store", "commit")+thread("0")+"run 0*8\n",
		"run"+times(6, "moved")+" error5 none")
	plays(t, "config 2 2 2 1 3 single\n"+writes()+thread("0", "0")+"run 0*24\n",
		"run"+times(16, "moved")+" done"+times(5, "moved")+" error6 none")
	plays(t, single+program("add")+thread("0")+"run 0*3\n", "run moved error7 none")
	plays(t, single+program("abort")+thread("0", "0")+"run 0*5\n", "run moved error8 moved error8 none")
}

// P25.2, LineCells: numbers below 0, the least and the greatest one; cells as they are, and as they will be.
func TestCells(t *testing.T) {
	plays(t, "config 1 1 1 1 1 single\ncells\n", "cells 0", "finished 0")
	plays(t, "config 1 1 1 1 1 single\nregion counter 1\nregion chain 0\ncells\n", "cells 0 0 0 0 0", "finished 0 0 0 0 0")
	text := "config 3 4 2 9 3 single\n" + writes() + thread("0 0 -1", "0 1 -9223372036854775808", "0 2 9223372036854775807")
	plays(t, text+"run 0*5\ncells\nrun 0\ncells\nrun 0*9\ncells\nrun 0\ncells\nrun 0\ncells\nrun 0*8\ncells\nrun 0*11\ncells\nrun 0*99\ncells\ncells\n",
		"run"+times(5, "moved"), "cells 0 0 0", "finished 0 0 0",
		"run moved", "cells 0 0 0", "finished -1 0 0",
		"run"+times(9, "moved"), "cells 0 0 0", "finished -1 0 0",
		"run moved", "cells -1 0 0", "finished -1 0 0",
		"run done", "cells -1 0 0", "finished -1 0 0",
		"run"+times(8, "moved"), "cells -1 0 0", "finished -1 -9223372036854775808 0",
		"run"+times(10, "moved")+" done", "cells -1 -9223372036854775808 0", "finished -1 -9223372036854775808 0",
		"run"+times(18, "moved")+" done"+times(80, "none"),
		"cells -1 -9223372036854775808 9223372036854775807", "finished -1 -9223372036854775808 9223372036854775807",
		"cells -1 -9223372036854775808 9223372036854775807", "finished -1 -9223372036854775808 9223372036854775807")
}

// P25.2, LineCells: of two that write one cell, and are both written back later, the newer one stands.
func TestCellsUnderWay(t *testing.T) {
	text := multi + writes() + thread("0 0 5") + thread("0 0 6")
	plays(t, text+"run 0*7 1*8\ncells\n", "run"+times(15, "moved"), "cells 0 0", "finished 6 0")
	plays(t, text+"run 1*7 0*8\ncells\n", "run"+times(15, "moved"), "cells 0 0", "finished 5 0")
}

// fills is a program that fills a counter row 0, a queue 1, a dict 2 and a chain 3, of a capacity of 2 each.
func fills() string {
	return program("push8 1", "push8 -7", "cadd 0", "push8 3", "cput 1", "push8 2", "cput 1",
		"push8 4", "push8 9", "cput 2", "push8 -1", "push8 5", "cput 2", "push8 6", "cadd 3", "push8 2", "cadd 3", "commit")
}

// P25.2, LineShapes: no region, each kind of them, empty and full, and of no capacity; what is published counts, also where it isn't written back yet.
func TestShapes(t *testing.T) {
	plays(t, single+"shapes\ncells\nshapes\n", "cells 0 0", "finished 0 0")
	plays(t, single+"region counter 0\nregion queue 0\nregion dict 0\nregion chain 0\nshapes\n", "counter", "queue", "dict", "chain")
	plays(t, single+"region chain 1\nregion counter 3\nregion chain 2\nregion queue 1\nshapes\n", "chain", "counter 0 0 0", "chain", "queue")
	text := "config 1 2 24 9 1 single\nregion counter 2\nregion queue 2\nregion dict 2\nregion chain 2\n" + fills() + thread("0")
	empty := []string{"counter 0 0", "queue", "dict", "chain"}
	full := []string{"counter 0 -7", "queue 3 2", "dict -1:5 4:9", "chain 2 6"}
	plays(t, text+"shapes\nrun 0*99\nshapes\n", append(append(empty, transcriptLines(t, text+"run 0*99\n")...), full...)...)
	published := 0
	for n := range 99 {
		got := transcript(t, text+"run 0"+times(n, "0")+"\nstate\nshapes\n")
		want := full
		if strings.Contains(got, "thread 0 0 1 open ") {
			want = empty
		} else if strings.Contains(got, " published ") {
			published++
		}
		if !strings.HasSuffix(got, "\n"+strings.Join(want, "\n")+"\n") {
			t.Errorf("behind %d steps: %q, not %q", n+1, got, want)
		}
	}
	// It publishes, lays eight words and a head word, and writes seventeen cells; then it is complete.
	if published != 1+8+1+17 {
		t.Errorf("published behind %d steps", published)
	}
}

// P25.2, LineShapes: the least and the greatest keys and values.
func TestShapesOfEdges(t *testing.T) {
	text := "config 1 2 24 9 1 single\nregion dict 4\nregion chain 4\nregion queue 2\nregion counter 1\n"
	text += program("arg 0", "arg 1", "cput 0", "arg 1", "arg 0", "cput 0", "arg 0", "cadd 1", "arg 1", "cadd 1", "arg 1", "cput 2", "arg 0", "cput 2", "push8 0", "arg 0", "cadd 3", "commit")
	text += thread("0 9223372036854775807 -9223372036854775808", "0 -1 0") + "run 0*300\nshapes\n"
	const least, most = "-9223372036854775808", "9223372036854775807"
	want := []string{
		"dict " + least + ":" + most + " -1:0 0:-1 " + most + ":" + least,
		"chain " + least + " -1 0 " + most,
		"queue " + least + " " + most,
		"counter 9223372036854775806",
	}
	lines := transcriptLines(t, text)
	if got := strings.Join(lines[1:], ";"); got != strings.Join(want, ";") {
		t.Errorf("%q, not %q", got, want)
	}
}

// transcriptLines are those of what is told of a script.
func transcriptLines(t *testing.T, text string) []string {
	t.Helper()
	got := transcript(t, text)
	if got == "" {
		return nil
	}
	return strings.Split(strings.TrimSuffix(got, "\n"), "\n")
}

// P25.2, LineRing: entries that are raw, writing and done; of a raw one no signature is told, though some of it may lie there.
func TestRing(t *testing.T) {
	text := "config 3 2 2 9 3 multi\n" + writes() + thread("0 2 5") + thread("0 1 6") + thread("0 0 7")
	raw := noughts(128)
	plays(t, text+"ring\nrun 0*6\nring\nrun 0\nring\nrun 0*8\nring\nrun 0\nring\nrun 0\nring\nrun 0\nring\n",
		"ring 0",
		"run"+times(6, "moved"), "ring 0",
		"run moved", "entry 1 raw "+raw, "ring 1",
		"run"+times(8, "moved"), "entry 1 raw "+raw, "ring 1",
		"run moved", "entry 1 writing "+sig2(), "ring 1",
		"run moved", "entry 1 writing "+sig2(), "ring 1",
		"run done", "entry 1 done "+sig2(), "ring 1")
	// Two beside each other; then the ring is full, and the third one takes the first one's slot.
	plays(t, text+"run 0*7 1*8\nring\nrun 1*9\nring\nrun 0*9 0*2\nring\nrun 2*9\nring\nrun 2*9\nring\n",
		"run"+times(15, "moved"), "entry 1 raw "+raw, "entry 2 raw "+raw, "ring 2",
		"run"+times(9, "moved"), "entry 1 raw "+raw, "entry 2 writing "+sig1(), "ring 2",
		"run"+times(10, "moved")+" done", "entry 1 done "+sig2(), "entry 2 writing "+sig1(), "ring 2",
		"run"+times(9, "moved"), "entry 2 writing "+sig1(), "entry 3 raw "+raw, "ring 2",
		"run"+times(9, "moved"), "entry 2 writing "+sig1(), "entry 3 writing "+sig0(), "ring 2")
}

// P25.2, LineRing: rings with as many entries as they have slots, of the least and the greatest size; an entry of two cells has both their bits.
func TestRingFull(t *testing.T) {
	both := program("push8 0", "dup", "store", "push8 2", "dup", "store", "commit")
	jobs := thread(strings.Fields(strings.Repeat("0 ", 20))...)
	sig := noughts(15) + "1" + "0020000000000000" + noughts(96)
	got := transcript(t, "config 3 1 2 99 1 single\n"+both+jobs+"run 0*999\nring\n")
	if want := "none\nentry 20 done " + sig + "\nring 1\n"; !strings.HasSuffix(got, want) {
		t.Errorf("%q, not %q", got, want)
	}
	got = transcript(t, "config 3 16 2 99 1 multi\n"+both+jobs+"run 0*999\nring\n")
	if want := "none\nentry 5 done " + sig + "\nentry 6 done " + sig + "\n"; !strings.Contains(got, want) || !strings.HasSuffix(got, "\nentry 20 done "+sig+"\nring 16\n") {
		t.Errorf("%q, not %q", got, want)
	}
}

// P25.2, LineState: no thread; threads that are at no job, at their first step, open, published, through.
func TestState(t *testing.T) {
	plays(t, single+"state\n")
	plays(t, single+"run 0\nstate\nstate\n", "run none")
	plays(t, single+thread()+"state\n", "thread 0 0 0 open 0 0")
	text := single + writes() + thread("0 0 5", "0 0 6") + thread() + thread("0 1 7")
	plays(t, text+"state\nrun 0\nstate\n",
		"thread 0 0 0 open 0 0", "thread 1 0 0 open 0 0", "thread 2 0 0 open 0 0",
		"run moved",
		"thread 0 0 1 open 1 0", "thread 1 0 0 open 0 0", "thread 2 0 0 open 0 0")
	plays(t, text+"run 0*5\nstate\nrun 0 2*9\nstate\nrun 0*11\nstate\n",
		"run"+times(5, "moved"),
		"thread 0 0 1 open 5 0", "thread 1 0 0 open 0 0", "thread 2 0 0 open 0 0",
		"run"+times(7, "moved")+times(3, "wait"),
		"thread 0 0 1 published 6 0", "thread 1 0 0 open 0 0", "thread 2 0 1 open 9 3",
		"run"+times(10, "moved")+" done",
		"thread 0 1 0 open 17 0", "job 0 1 ok", "thread 1 0 0 open 0 0", "thread 2 0 1 open 9 3")
	plays(t, text+"run 0*17 0*8\nstate\nrun 1 0*99\nstate\n",
		"run"+times(16, "moved")+" done"+times(8, "moved"),
		"thread 0 1 1 published 25 0", "job 0 1 ok", "thread 1 0 0 open 0 0", "thread 2 0 0 open 0 0",
		"run none"+times(10, "moved")+" done"+times(88, "none"),
		"thread 0 2 0 open 36 0", "job 0 1 ok", "job 1 1 ok", "thread 1 0 0 open 0 0", "thread 2 0 0 open 0 0")
}

// P25.2, LineState: jobs that told nothing and much, that ended well and by each error.
func TestOutcomes(t *testing.T) {
	much := program("push8 16", "again: dup", "arg 0", "mul", "tell", "push8 1", "sub", "dup", "jumpz out", "jump again", "out: commit")
	little := program("arg 1", "tell", "arg 0", "tell", "arg 4", "tell", "arg 3", "tell", "commit")
	given := program("push8 5", "tell", "push8 0", "load", "drop", "abort")
	bad := program("push8 5", "tell", "drop")
	big := program("push8 5", "tell", "push8 0", "dup", "store", "push8 1", "dup", "store", "push8 2", "dup", "store")
	text := "config 3 4 2 9 3 single\n" + much + little + given + bad + big + program("commit")
	text += thread("0 1", "5", "0 -576460752303423488", "0 -2", "1 7 -9223372036854775808 9223372036854775807 -1", "2", "1", "3 1 2", "4", "0", "5 1 2 3 4")
	got := transcriptLines(t, text+"run 0*2000\nstate\n")
	want := []string{
		"job 0 1 ok 16 15 14 13 12 11 10 9 8 7 6 5 4 3 2 1",
		"job 1 1 ok",
		"job 2 1 ok -9223372036854775808 -8646911284551352320 -8070450532247928832 -7493989779944505344 -6917529027641081856 -6341068275337658368 -5764607523034234880 -5188146770730811392 -4611686018427387904 -4035225266123964416 -3458764513820540928 -2882303761517117440 -2305843009213693952 -1729382256910270464 -1152921504606846976 -576460752303423488",
		"job 3 1 ok -32 -30 -28 -26 -24 -22 -20 -18 -16 -14 -12 -10 -8 -6 -4 -2",
		"job 4 1 ok -9223372036854775808 7 0 -1",
		"job 5 1 error8",
		"job 6 1 ok 0 0 0 0",
		"job 7 1 error7",
		"job 8 1 error5",
		"job 9 1 ok 0 0 0 0 0 0 0 0 0 0 0 0 0 0 0 0",
		"job 10 1 ok",
	}
	if len(got) != 2+len(want) || !strings.HasPrefix(got[1], "thread 0 11 0 open ") || strings.Join(got[2:], ";") != strings.Join(want, ";") {
		t.Errorf("%q, not %q", got[1:], want)
	}
}

// P25.2, LineState: of jobs that others were in the way of, how often they were tried; and by which error they ended in the end.
func TestOutcomesTried(t *testing.T) {
	text := reads() + writes() + thread("0 0", "0 1") + thread("1 0 5", "1 0 6", "1 0 7")
	// Each time the cell was looked at, another one writes it: it takes 17 steps at first, then 19.
	again := times(4, "moved") + times(18, "moved") + " done moved moved error3"
	plays(t, single+text+"run 0*3 1*17 0*3\nstate\nrun 0*4 1*19 0*3\nstate\nrun 0*4 1*19 0*3\nstate\n",
		"run"+times(19, "moved")+" done moved moved error3",
		"thread 0 0 2 open 6 0", "thread 1 1 0 open 17 0", "job 0 1 ok",
		"run"+again,
		"thread 0 0 3 open 13 0", "thread 1 2 0 open 36 0", "job 0 1 ok", "job 1 1 ok",
		"run"+again,
		"thread 0 1 0 open 20 0", "job 0 3 error3", "thread 1 3 0 open 55 0", "job 0 1 ok", "job 1 1 ok", "job 2 1 ok")
	// A job that is tried just once; the next one is another.
	plays(t, "config 2 4 2 9 1 single\n"+text+"run 0*3 1*17 0*3 0*7\nstate\n",
		"run"+times(19, "moved")+" done moved moved error3"+times(6, "moved")+" done",
		"thread 0 2 0 open 13 0", "job 0 1 error3", "job 1 1 ok 0", "thread 1 1 0 open 17 0", "job 0 1 ok")
}

// P25.2, LineOrder: no event; those that published by their stamps, others where they saw; those under way, too.
func TestOrder(t *testing.T) {
	const fine = "timely yes legal yes"
	plays(t, single+"order\n", "order", fine)
	plays(t, single+thread()+"run 0 1\norder\norder\n", "run none none", "order", fine, "order", fine)
	text := single + writes() + reads() + thread("0 0 5", "0 0 6") + thread("0 1 7") + thread("1 0")
	plays(t, text+"run 0\norder\n", "run moved", "order 0", fine)
	plays(t, text+"run 0 1*17 0*17\norder\nrun 2\norder\nrun 2*6\norder\n",
		"run"+times(17, "moved")+" done"+times(16, "moved")+" done", "order 1 0", fine,
		"run moved", "order 1 0 2", fine,
		"run"+times(5, "moved")+" done", "order 1 0 2", fine)
	// What the thread 2 read is what was there at first: ahead of all that published.
	plays(t, text+"run 0 2*4 0*16\norder\nrun 1\norder\nrun 2*2\norder\n",
		"run"+times(20, "moved")+" done", "order 1 0", fine,
		"run moved", "order 1 0 2", fine,
		"run moved done", "order 1 0 2", fine)
	plays(t, text+"run 0*2 1 2 1\norder\n", "run"+times(5, "moved"), "order 0 1 2", fine)
}

// P25.2, LineWords: each kind of shared word, each kind of access; swaps that came to nothing, too; words rise.
func TestWords(t *testing.T) {
	plays(t, single+thread()+"run 0 7\nwords\n", "run none none", "words 0")
	text := multi + reads() + writes() + thread("1 1 5") + thread("1 0 6") + thread("0 1")
	plays(t, text+"run 0\nwords\nrun 0*3\nwords\n",
		"run moved", "newest 1 0 0", "words 1",
		"run moved moved moved", "newest 1 0 0", "words 1")
	// Both look at the slot of 1, and one of them is late: it takes the stamp 2.
	got := transcript(t, text+"run 0*6 1*6 0\nwords\nrun 1\nwords\nrun 0*11 1*15\nwords\n")
	laid := ""
	for _, word := range strings.Fields("1:0 1:1 1:2 1:3 1:4 1:5 1:6 1:7 2:0 2:1 2:2 2:3 2:4 2:5 2:6 2:7") {
		laid += "sig " + strings.Replace(word, ":", " ", 1) + " 0 1 0\n"
	}
	for _, want := range []string{
		"moved\nnewest 4 0 1\nhead 1 2 0 0\nwords 7\n",
		"run moved\nnewest 4 0 2\nhead 1 2 0 0\nwords 8\n",
		"done\nnewest 5 0 3\nhead 1 3 2 0\nhead 2 1 2 0\n" + laid + "cell 0 0 1 0\ncell 1 0 1 0\nwords 34\n",
	} {
		if !strings.Contains(got, want) {
			t.Errorf("no %q in %q", want, got)
		}
	}
	// A reader loads its cell, the newest stamp, the head, and of the signature just the word that its cell has a bit in.
	got = transcript(t, text+"run 2*3\nwords\nrun 0*18\nrun 2*3\nwords\n")
	for _, want := range []string{
		"moved\nnewest 1 0 0\ncell 1 1 0 0\nwords 2\n",
		"error3\nnewest 4 0 1\nhead 1 2 2 0\nsig 1 0 0 1 0\nsig 1 1 0 1 0\nsig 1 2 0 1 0\nsig 1 3 0 1 0\nsig 1 4 0 1 0\nsig 1 5 1 1 0\n",
		"\ncell 1 1 1 0\nwords 20\n",
	} {
		if !strings.Contains(got, want) {
			t.Errorf("no %q in %q", want, got)
		}
	}
}
