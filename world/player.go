package world

import (
	"carousel/api"
	"carousel/sched"
)

// player plays a script's lines over its world.
type player struct {
	config api.Config
	world  *sched.World
}

// play plays lines, one behind the other, and tells what there is to tell of them.
func (p player) play(lines []api.Line, told chan<- sentence) {
	for _, line := range lines {
		for _, words := range p.playLine(line) {
			told <- words
		}
	}
	close(told)
}

// playLine plays a line: what is told of it.
func (p player) playLine(l api.Line) []sentence {
	switch l.Kind {
	case api.LineStep:
		return p.playSteps(l.Threads)
	case api.LineCells:
		return cellsTold(p.world.Cells(), p.world.Finished())
	case api.LineShapes:
		return shapesTold(p.config, p.world.Finished())
	case api.LineRing:
		return ringTold(p.world.Ring())
	case api.LineState:
		return p.stateTold()
	case api.LineOrder:
		return orderTold(p.world.Events(0))
	case api.LineWords:
		return wordsTold(p.world.Touched())
	}
	return nil
}

// playSteps makes a step of each of these threads, one behind the other.
func (p player) playSteps(threads []int) []sentence {
	run := sentence{"run"}
	for _, thread := range threads {
		run = append(run, answerWord(p.world.Step(thread)))
	}
	return []sentence{run}
}

// stateTold is how all threads stand, and behind each how its jobs ended.
func (p player) stateTold() []sentence {
	var list []sentence
	for number, thread := range p.world.Threads() {
		list = append(list, threadTold(number, thread))
		for job, outcome := range p.world.Outcomes(number) {
			list = append(list, outcomeTold(job, outcome))
		}
	}
	return list
}
