package prog_test

import (
	"iter"
	"math"
	"slices"
	"testing"

	"carousel/api"
	"carousel/chain"
	"carousel/core"
	"carousel/counter"
	"carousel/dict"
	"carousel/mem"
	"carousel/place"
	"carousel/prog"
	"carousel/queue"
	"carousel/ring"
)

// twin is a job told by the chapter's words, in one row: it is handed on from step to step.
type twin struct {
	c    api.Config
	code string
	args []int64

	tx      *core.Tx
	run     *runner
	number  int
	earlier []api.Event
	outcome *api.Outcome

	m      *mem.Mem // of the step at hand
	thread int
	access bool // by which the instruction at hand was done
	next   func() (api.Answer, bool)
	stop   func()
	yield  func(api.Answer) bool
}

// stopped: nobody wants a further step.
type stopped struct{}

// failure is how a try came to nothing.
type failure struct{ answer api.Answer }

func newTwin(c api.Config, code string, args []int64) *twin {
	w := &twin{c: c, code: code, args: args}
	w.anew()
	w.next, w.stop = iter.Pull(iter.Seq[api.Answer](w.play))
	return w
}

func (w *twin) anew() {
	w.number++
	w.tx, _ = core.New(w.c)
	w.run = &runner{c: w.c, code: w.code, args: w.args, over: w}
}

// step makes one step; the memory is one that may be.
func (w *twin) step(m *mem.Mem, thread int) api.Answer {
	w.m, w.thread = m, thread
	answer, more := w.next()
	if !more {
		return nothing()
	}
	return answer
}

// tells is the end of a step.
func (w *twin) tells(answer api.Answer) {
	if !w.yield(answer) {
		panic(stopped{})
	}
}

// play is the whole job.
func (w *twin) play(yield func(api.Answer) bool) {
	defer func() {
		if r := recover(); r != nil && r != (stopped{}) {
			panic(r)
		}
	}()
	w.yield = yield
	for w.outcome == nil {
		answer := w.attempt()
		again := answer.Err == api.ErrConflict || answer.Err == api.ErrOverrun
		switch {
		case answer.Kind == api.AnsDone:
			w.outcome = &api.Outcome{Tries: w.number, Tells: w.run.told}
			answer.Value = 0
		case again && w.number < w.c.Tries:
			w.earlier = append(w.earlier, w.tx.Told(0)...)
			w.anew()
		default:
			w.outcome = &api.Outcome{Tries: w.number, Err: answer.Err}
		}
		w.tells(answer)
	}
}

// attempt is one try; the answer is its last step's, which is not told yet.
func (w *twin) attempt() (answer api.Answer) {
	defer func() {
		r := recover()
		if f, is := r.(failure); is {
			answer = f.answer
		} else if r != nil {
			panic(r)
		}
	}()
	w.tells(api.Answer{Kind: api.AnsMoved, Access: w.wants(api.Want{Kind: api.WantBegin}).Access})
	for {
		w.access = false
		why, going := w.run.next()
		switch {
		case going:
			w.tells(api.Answer{Kind: api.AnsMoved, Access: w.access})
		case why == api.OK:
			return w.wants(api.Want{Kind: api.WantCommit})
		default:
			return w.wants(api.Want{Kind: api.WantAbort, Code: int(why)})
		}
	}
}

// wants does all steps of a want but the last one, whose answer it tells.
func (w *twin) wants(want api.Want) api.Answer {
	answer := w.tx.Do(w.m, w.thread, want)
	for answer.Kind == api.AnsMoved || answer.Kind == api.AnsWait {
		w.tells(answer)
		answer = w.tx.Step(w.m, w.thread)
	}
	if answer.Kind == api.AnsFailed {
		panic(failure{answer})
	}
	return answer
}

func (w *twin) cell(p int64) int { return int(uint64(p) % uint64(w.c.Raw)) }

func (w *twin) load(p int64) int64 {
	answer := w.wants(api.Want{Kind: api.WantRead, Cell: w.cell(p)})
	w.access = answer.Access
	return answer.Value
}

func (w *twin) store(p, v int64) {
	w.access = w.wants(api.Want{Kind: api.WantWrite, Cell: w.cell(p), Value: v}).Access
}

// asking is a call of a collection.
func (w *twin) asking(region, call int, args []int64) interface{ Next(int64) api.Want } {
	base, _ := place.Base(w.c, region)
	r := w.c.Regions[region]
	var x interface{ Next(int64) api.Want }
	switch r.Kind {
	case api.KindCounter:
		x, _ = counter.New(base, r.Cap, call, args...)
	case api.KindQueue:
		x, _ = queue.New(base, r.Cap, call, args...)
	case api.KindDict:
		x, _ = dict.New(base, r.Cap, call, args...)
	default:
		x, _ = chain.New(base, r.Cap, call, args...)
	}
	return x
}

func (w *twin) ask(region, call int, args []int64) (int64, int) {
	x, v := w.asking(region, call, args), int64(0)
	for {
		want := x.Next(v)
		if want.Kind == api.WantDone {
			return want.Value, want.Code
		}
		answer := w.wants(want)
		if want.Kind == api.WantRead {
			v = answer.Value
		}
		if answer.Access {
			w.tells(api.Answer{Kind: api.AnsMoved, Access: true})
		}
	}
}

// told are all its events from a number on.
func (w *twin) told(from int) []api.Event {
	return slices.Concat(w.earlier, w.tx.Told(0))[from:]
}

// published: has its try's transaction published its entry?
func (w *twin) published() bool {
	return slices.ContainsFunc(w.tx.Told(0), func(e api.Event) bool { return e.Kind == api.EvPublished })
}

// alike: a job tells of itself what its twin does, but for the events ahead of a number.
func alike(t *testing.T, x *prog.Machine, w *twin, from int) {
	t.Helper()
	stackIs(t, x, w.run.stack...)
	tryIs(t, x, w.number, w.published())
	writesAre(t, x, w.tx.Writes()...)
	if got, want := x.Told(from), w.told(from); !slices.Equal(got, want) {
		t.Fatalf("Told(%d): %+v, not %+v", from, got, want)
	}
	o, over := x.Outcome()
	want := api.Outcome{}
	if w.outcome != nil {
		want = *w.outcome
	}
	if over != (w.outcome != nil) || o.Tries != want.Tries || o.Err != want.Err || !slices.Equal(o.Tells, want.Tells) {
		t.Fatalf("Outcome: %+v, %v, not %+v", o, over, want)
	}
	if t.Failed() {
		t.Fatalf("%+v, %x, %v", w.c, w.code, w.args)
	}
}

// pair are a job and its twin.
type pair struct {
	x     *prog.Machine
	w     *twin
	heard int // events
}

// step makes a step of both, over memories that are alike; the job's answer.
func (p *pair) step(t *testing.T, m, like *mem.Mem, thread int) api.Answer {
	t.Helper()
	before, beforeLike := m.Count(), like.Count()
	got, want := step(t, p.x, m, thread), p.w.step(like, thread)
	if got != want || !slices.Equal(m.Log(before), like.Log(beforeLike)) {
		t.Fatalf("%+v, %x, %v: %+v by %+v, not %+v by %+v", p.w.c, p.w.code, p.w.args, got, m.Log(before), want, like.Log(beforeLike))
	}
	alike(t, p.x, p.w, p.heard)
	p.heard += len(p.x.Told(p.heard))
	return got
}

// newPair is any job and its twin.
func newPair(t *testing.T, seed *strewn, c api.Config) *pair {
	t.Helper()
	code, args := seed.program(c), seed.args()
	return &pair{x: made(t, c, code, args...), w: newTwin(c, code, args)}
}

// tally is how often jobs ended by each error, tried again, and waited.
type tally struct {
	ends         map[api.Errno]int
	again, waits int
}

// over counts a job that is over.
func (y *tally) over(o api.Outcome) {
	y.ends[o.Err]++
	if o.Tries > 1 {
		y.again++
	}
}

// among makes steps of several jobs over one memory, beside their twins; whoever is over makes room for another one.
func among(t *testing.T, seed *strewn, c api.Config, most int, count *tally) {
	t.Helper()
	m, like := memory(t, c), memory(t, c)
	pairs := make([]*pair, 1+seed.below(4))
	for i := range pairs {
		pairs[i] = newPair(t, seed, c)
	}
	haste := 1 + seed.below(20)
	at := 0
	for range most {
		if seed.below(haste) == 0 {
			at = seed.below(len(pairs))
		}
		p := pairs[at]
		switch p.step(t, m, like, at).Kind {
		case api.AnsWait:
			count.waits++
			if ring.Newest(m) == ring.Complete(m) {
				t.Fatalf("%+v: it waits for none", c)
			}
			at = seed.below(len(pairs))
		case api.AnsNone:
			alike(t, p.x, p.w, 0)
			pairs[at] = newPair(t, seed, c)
		}
		if o, over := p.x.Outcome(); over && pairs[at] == p {
			count.over(o)
			at = seed.below(len(pairs))
		}
	}
	for _, p := range pairs {
		alike(t, p.x, p.w, 0)
		p.w.stop()
	}
}

// P21.2 to P21.7: several jobs over one memory, in any order of steps: each does, step by step, what the chapter's words say.
func TestTwin(t *testing.T) {
	seed := strewn(31)
	count := &tally{ends: map[api.Errno]int{}}
	for range 300 {
		among(t, &seed, seed.config(), 1000, count)
	}
	for _, why := range []api.Errno{api.OK, api.ErrConflict, api.ErrOverrun, api.ErrTooBig, api.ErrStampsSpent, api.ErrOwn, api.ErrBadProgram} {
		if count.ends[why] < 15 {
			t.Errorf("just %d ended with error %d", count.ends[why], why)
		}
	}
	if count.waits < 500 || count.again < 50 {
		t.Errorf("%d waits, %d tried again", count.waits, count.again)
	}
}

// R1, R5: over a memory in which others write any words, a job goes on as its transaction does, and never panics.
func TestTwinAnyWords(t *testing.T) {
	seed := strewn(32)
	for range 600 {
		c := seed.config()
		m, like := memory(t, c), memory(t, c)
		code, args := seed.program(c), seed.args()
		p := &pair{x: made(t, c, code, args...), w: newTwin(c, code, args)}
		cells, slots := m.Sizes()
		for range 300 {
			if seed.below(6) == 0 {
				a := []api.Addr{
					{Kind: api.AddrNewest}, {Kind: api.AddrHead, I: seed.below(slots)}, {Kind: api.AddrSig, I: seed.below(slots), J: seed.below(8)},
					{Kind: api.AddrCell, I: seed.below(cells)}, {Kind: api.AddrCell, I: seed.below(cells)}, {Kind: api.AddrCell, I: seed.below(cells)},
				}[seed.below(6)]
				v := []int64{math.MinInt64, -1, 0, 1, 2, 3, 4, 5, 7, 9, 1 << 40, math.MaxInt64}[seed.below(12)]
				m.Store(99, a, v)
				like.Store(99, a, v)
			}
			p.step(t, m, like, seed.below(8))
		}
		p.w.stop()
	}
}
