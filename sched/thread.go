package sched

import (
	"carousel/api"
	"carousel/mem"
	"carousel/prog"
)

// thread is one of a world's, and how far it has come with its jobs.
type thread struct {
	number   int
	jobs     []*prog.Machine // those that aren't over, the one at hand first
	outcomes []api.Outcome   // of those that are over
	heard    int             // events of the job at hand that are in the history
	tx       int             // the number of its last transaction
	stamp    int64           // of what it published last
	steps    int             // those that were answered otherwise than by AnsNone
	waits    int             // of these
}

// newThread is one at the first of its jobs.
func newThread(number int, s api.Setup, jobs []api.Job) (*thread, api.Errno) {
	t := &thread{number: number}
	for _, job := range jobs {
		x, why := prog.New(s.Config, s.Programs[job.Program], job.Args)
		if why != api.OK {
			return nil, why
		}
		t.jobs = append(t.jobs, x)
	}
	return t, api.OK
}

// through: are all its jobs over?
func (t *thread) through() bool { return len(t.jobs) == 0 }

// step makes one of the job at hand.
func (t *thread) step(m *mem.Mem) api.Answer {
	answer := t.jobs[0].Step(m, t.number)
	t.steps++
	if answer.Kind == api.AnsWait {
		t.waits++
	}
	return answer
}

// news are the events of the job at hand that were not heard yet.
func (t *thread) news() []api.Event {
	news := t.jobs[0].Told(t.heard)
	t.heard += len(news)
	for _, event := range news {
		if event.Kind == api.EvPublished {
			t.stamp = event.Stamp
		}
	}
	return news
}

// goOn leaves the job at hand for the next one, if it is over; what it ended with is all that is kept of it.
func (t *thread) goOn() {
	outcome, over := t.jobs[0].Outcome()
	if !over {
		return
	}
	t.outcomes = append(t.outcomes, outcome)
	t.jobs[0] = nil
	t.jobs = t.jobs[1:]
	t.heard = 0
}

// stands is how far it has come.
func (t *thread) stands() api.Thread {
	s := api.Thread{Job: len(t.outcomes), Steps: t.steps, Waits: t.waits}
	// A job's first step tells that a transaction is opened: of one that told nothing none was made.
	if t.heard > 0 {
		s.Try, s.Published = t.jobs[0].Try()
	}
	return s
}
