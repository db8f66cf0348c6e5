package core_test

import (
	"math"
	"slices"
	"testing"

	"carousel/api"
	"carousel/back"
	"carousel/begin"
	"carousel/commit"
	"carousel/core"
	"carousel/fetch"
	"carousel/mem"
	"carousel/sig"
)

// strewn gives numbers that are spread out, the same ones each time.
type strewn uint64

func (s *strewn) below(n int) int {
	*s = *s*6364136223846793005 + 1442695040888963407
	return int(uint64(*s>>33) % uint64(n))
}

// twin is a transaction told by the chapter's words, over the machines of chapters 7, 9, 10 and 11.
type twin struct {
	c           api.Config
	phase       int
	start, seen int64
	reads       []int
	writes      []api.Write
	told        []api.Event

	begins  *begin.Machine
	fetches *fetch.Machine
	commits *commit.Machine
	backs   *back.Machine
	cell    int
	stamp   int64
}

func (w *twin) tell(e api.Event) { w.told = append(w.told, e) }

// ends: the phase is NONE from then on, and there is EvEnded.
func (w *twin) ends(why api.Errno) {
	w.tell(ended(why, w.start, w.seen, w.reads...))
	w.gone()
}

func (w *twin) gone() {
	w.phase, w.start, w.seen, w.reads, w.writes = none, 0, 0, nil, nil
}

// place is where a cell stands among those that are written; -1: nowhere.
func (w *twin) place(cell int) int {
	return slices.IndexFunc(w.writes, func(x api.Write) bool { return x.Cell == cell })
}

// refuses: is that ErrArg?
func (w *twin) refuses(m *mem.Mem, want api.Want) bool {
	if m == nil {
		return true
	}
	cells, slots := m.Sizes()
	if slots != w.c.Ring {
		return true
	}
	switch want.Kind {
	case api.WantBegin:
		return w.phase != none
	case api.WantRead, api.WantWrite:
		return w.phase != live || want.Cell < 0 || want.Cell >= cells
	case api.WantCommit:
		return w.phase != live
	case api.WantAbort:
		return w.phase != live || want.Code != 7 && want.Code != 8
	}
	return true
}

func (w *twin) do(m *mem.Mem, thread int, want api.Want) api.Answer {
	if w.refuses(m, want) {
		return failed(api.ErrArg)
	}
	switch want.Kind {
	case api.WantBegin:
		w.phase = beginning
		w.tell(opened())
		w.begins, _ = begin.New(w.c.Ring)
		return w.step(m, thread)
	case api.WantRead:
		if i := w.place(want.Cell); i >= 0 {
			w.tell(readOwn(want.Cell, w.writes[i].Value, w.start, w.seen))
			return done(w.writes[i].Value)
		}
		w.reads = append(w.reads, want.Cell)
		w.phase, w.cell = reading, want.Cell
		w.fetches, _ = fetch.New(w.c.Ring, w.start, sig.Of(w.reads...), want.Cell)
		return w.step(m, thread)
	case api.WantWrite:
		return w.write(want.Cell, want.Value)
	case api.WantCommit:
		if len(w.writes) == 0 {
			w.ends(api.OK)
			return done(0)
		}
		w.phase = committing
		w.commits, _ = commit.New(w.c, w.start, sig.Of(w.reads...))
		return w.step(m, thread)
	}
	w.ends(api.Errno(want.Code))
	return failed(api.Errno(want.Code))
}

func (w *twin) write(cell int, v int64) api.Answer {
	i := w.place(cell)
	if i < 0 && len(w.writes) == w.c.Writes {
		w.ends(api.ErrTooBig)
		return failed(api.ErrTooBig)
	}
	if i < 0 {
		i = len(w.writes)
		w.writes = append(w.writes, api.Write{Cell: cell})
	}
	w.writes[i].Value = v
	w.tell(wrote(cell, v))
	return done(0)
}

// needs is one more than the greatest cell that is needed.
func (w *twin) needs() int {
	switch w.phase {
	case reading:
		return w.cell + 1
	case published:
		most := 0
		for _, x := range w.writes {
			most = max(most, x.Cell+1)
		}
		return most
	}
	return 0
}

func (w *twin) step(m *mem.Mem, thread int) api.Answer {
	if m == nil {
		return nothing()
	}
	if cells, slots := m.Sizes(); slots != w.c.Ring || cells < w.needs() {
		return nothing()
	}
	var answer api.Answer
	switch w.phase {
	case beginning:
		if answer = w.begins.Step(m, thread); answer.Kind == api.AnsDone {
			w.phase = live
			w.start, w.seen, _ = w.begins.Start()
			w.tell(begun(w.start, w.seen))
		}
	case reading:
		if answer = w.fetches.Step(m, thread); answer.Kind == api.AnsDone {
			w.phase = live
			w.start, w.seen, _ = w.fetches.Start()
			w.tell(read(w.cell, answer.Value, w.start, w.seen))
		}
	case committing:
		if answer = w.commits.Step(m, thread); answer.Kind == api.AnsDone {
			w.phase = published
			w.publish(answer.Value)
			answer = moved()
		}
	case published:
		if answer = w.backs.Step(m, thread); answer.Kind == api.AnsDone {
			w.tell(complete(w.stamp))
			w.gone()
		}
	}
	if answer.Kind == api.AnsFailed {
		w.ends(answer.Err)
	}
	return answer
}

func (w *twin) publish(stamp int64) {
	w.stamp = stamp
	var cells []int
	for _, x := range w.writes {
		cells = append(cells, x.Cell)
	}
	w.tell(publishedAs(stamp, cells...))
	w.backs, _ = back.New(w.c, stamp, w.writes)
}

// lookFrom is all that the twin tells of itself, but for the events ahead of a number.
func (w *twin) lookFrom(from int) look {
	return look{w.phase, w.start, w.seen, sig.Of(w.reads...), slices.Clone(w.writes), slices.Clone(w.told[from:])}
}

// pair are two memories that are alike: one for the transaction, one for its twin.
type pair struct{ m, like *mem.Mem }

func newPair(t *testing.T, cells, slots int) pair {
	t.Helper()
	return pair{memory(t, cells, slots), memory(t, cells, slots)}
}

// scribble writes a word into both, mostly such as an entry has; now and then any word.
func (p pair) scribble(t *testing.T, seed *strewn, stamp int64) {
	t.Helper()
	cells, slots := p.m.Sizes()
	s := max(0, stamp-int64(seed.below(slots+1)))
	slot := int(s % int64(slots))
	a, v := head(slot), 2*s+int64(seed.below(2))
	switch seed.below(8) {
	case 0:
		a, v = newest(), max(0, stamp+int64(seed.below(3))-1)
	case 1:
		a, v = sigWord(slot, seed.below(8)), 1<<seed.below(64)
	case 2:
		a, v = sigWord(slot, seed.below(8)), 0
	case 3:
		a, v = cellAt(seed.below(cells)), int64(seed.below(100))
	case 4:
		a, v = head(slot), 2*s+1
	case 5:
		if seed.below(20) == 0 {
			a = []api.Addr{newest(), head(slot), cellAt(0)}[seed.below(3)]
			v = []int64{math.MinInt64, -1, 1 << 40, math.MaxInt64}[seed.below(4)]
		}
	}
	store(t, p.m, a, v)
	store(t, p.like, a, v)
}

// wanted is something that may be wanted, mostly.
func wanted(seed *strewn, phase, cells int) api.Want {
	if phase == none && seed.below(4) > 0 {
		return wantBegin()
	}
	switch seed.below(16) {
	case 0:
		return wantAbort(api.Errno(6 + seed.below(4)))
	case 1:
		return api.Want{Kind: seed.below(9) - 1, Cell: seed.below(cells+3) - 1, Value: 4, Code: seed.below(10)}
	case 2, 3, 4:
		return wantCommit()
	case 5, 6, 7, 8, 9:
		return wantWrite(seed.below(cells), int64(seed.below(1000)))
	}
	return wantRead(seed.below(cells))
}

// agree: a transaction and its twin make the same of a call; true: the call was answered by AnsWait.
func agree(t *testing.T, x *core.Tx, w *twin, over pair, thread int, ask bool, want api.Want) bool {
	t.Helper()
	heard := len(w.told)
	before := lookFrom(x, heard)
	accesses := over.m.Count()
	var got, right api.Answer
	if ask {
		got, right = x.Do(over.m, thread, want), w.do(over.like, thread, want)
	} else {
		got, right = x.Step(over.m, thread), w.step(over.like, thread)
	}
	log, rightLog := over.m.Log(accesses), over.like.Log(accesses)
	if got != right || !slices.Equal(log, rightLog) {
		t.Fatalf("%+v, in the phase %d (%v %+v): %+v by %+v, not %+v by %+v", w.c, before.phase, ask, want, got, log, right, rightLog)
	}
	if len(log) > 1 || got.Access != (len(log) == 1) {
		t.Fatalf("%+v by %+v", got, log)
	}
	now := lookFrom(x, heard)
	if want := w.lookFrom(heard); !now.same(want) {
		t.Fatalf("%+v: it is %+v, not %+v", w.c, now, want)
	}
	waited := got.Kind == api.AnsWait
	if still := waited || got == nothing() || got == failed(api.ErrArg); still && !now.same(before) {
		t.Fatalf("%+v: it was %+v, and is %+v", w.c, before, now)
	}
	return waited
}

// P12.2 to P12.5: over memories in which others write whatever they like, with wants and memories of all kinds, a transaction does what the chapter's words say, access by access.
func TestTwin(t *testing.T) {
	seed := strewn(1)
	ends, waits := map[api.Errno]int{}, map[int]int{}
	completed := 0
	for round := range 1500 {
		slots, cells := 1+seed.below(5), 2+seed.below(6)
		if round%10 == 0 {
			slots = 1 + seed.below(16)
		}
		c := api.Config{Ring: slots, Writes: 1 + seed.below(4), Stamps: int64(1 + seed.below(200)), Multi: seed.below(2) == 0}
		x, w := made(t, c), &twin{c: c}
		own := newPair(t, cells, slots)
		others := []pair{{}, newPair(t, cells, slots%16+1), newPair(t, 1+seed.below(cells), slots)}
		haste := 3 + seed.below(40)
		for range 300 {
			if seed.below(haste) == 0 {
				own.scribble(t, &seed, max(0, min(peek(t, own.m, newest()), 1<<40)))
			}
			over := own
			if seed.below(25) == 0 {
				over = others[seed.below(3)]
			}
			busy := w.phase != none && w.phase != live
			ask := !busy && seed.below(12) > 0 || busy && seed.below(12) == 0
			phase := w.phase
			if agree(t, x, w, over, seed.below(9), ask, wanted(&seed, w.phase, cells)) {
				waits[phase]++
			}
		}
		unchanged(t, x, w.lookFrom(0))
		for _, e := range x.Told(0) {
			if e.Kind == api.EvEnded {
				ends[e.Err]++
			}
			if e.Kind == api.EvComplete {
				completed++
			}
		}
	}
	for _, why := range []api.Errno{api.OK, api.ErrConflict, api.ErrOverrun, api.ErrTooBig, api.ErrStampsSpent, api.ErrOwn, api.ErrBadProgram} {
		if ends[why] < 100 {
			t.Errorf("just %d ended with error %d", ends[why], why)
		}
	}
	if completed < 1000 || waits[reading] < 100 || waits[committing] < 100 || waits[published] < 100 {
		t.Errorf("%d were complete; waits: %v", completed, waits)
	}
}

// R4: transactions beside each other, each over a memory of its own, go as each goes alone.
func TestApart(t *testing.T) {
	seed := strewn(4)
	for range 200 {
		var txs []*core.Tx
		var twins []*twin
		var over []pair
		for range 3 {
			c := api.Config{Ring: 1 + seed.below(4), Writes: 1 + seed.below(3), Stamps: 40, Multi: seed.below(2) == 0}
			txs, twins = append(txs, made(t, c)), append(twins, &twin{c: c})
			over = append(over, newPair(t, 4, c.Ring))
		}
		for range 300 {
			i := seed.below(3)
			busy := twins[i].phase != none && twins[i].phase != live
			agree(t, txs[i], twins[i], over[i], i, !busy, wanted(&seed, twins[i].phase, 4))
		}
		for i := range txs {
			unchanged(t, txs[i], twins[i].lookFrom(0))
		}
	}
}
