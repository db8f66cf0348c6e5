package script

import (
	"carousel/api"
	"carousel/asm"
)

// The parts of a script, in their order.
const (
	partNone   = iota // no line was read
	partConfig        // and its regions
	partPrograms
	partThreads
	partLines
)

// reader is what was read of a script.
type reader struct {
	part   int // which one was reached
	setup  api.Setup
	lines  []api.Line
	steps  int  // of all lines
	within bool // a program, of which the end is due
	source int  // where its text begins
}

// read reads a script's text: what is wrong first, and where.
func (r *reader) read(s string) (api.Errno, int) {
	from := 0
	for at, c := range s {
		if c != '\n' {
			continue
		}
		if why, place := r.take(s, from, at); why != api.OK {
			return why, place
		}
		from = at + 1
	}
	if r.within {
		return api.ErrText, len(s)
	}
	// Of the empty text no line was refused, though it lacks one.
	if from < len(s) || r.part == partNone {
		return api.ErrText, from
	}
	return api.OK, 0
}

// take takes the line of s that stands from one place to another: what is wrong, and where.
func (r *reader) take(s string, from, to int) (api.Errno, int) {
	if !r.within {
		// If it begins a program, its text stands behind it.
		r.source = to + 1
		return r.takeWords(pieces(s[from:to], ' ')), from
	}
	if s[from:to] != wordEnd {
		return api.OK, 0
	}
	r.within = false
	program, why, at := asm.Parse(s[r.source:from])
	r.setup.Programs = append(r.setup.Programs, program)
	return why, r.source + at
}

// takeWords takes the words of a line outside programs; there is one at least.
func (r *reader) takeWords(words []string) api.Errno {
	rest := words[1:]
	switch words[0] {
	case wordConfig:
		return r.takeConfig(rest)
	case wordRegion:
		return r.takeRegion(rest)
	case wordProgram:
		return r.takeProgram(rest)
	case wordThread:
		return r.takeThread(rest)
	case wordJob:
		return r.takeJob(rest)
	case wordRun:
		return r.takeSteps(rest)
	case wordCells:
		return r.takeLook(api.LineCells, rest)
	case wordShapes:
		return r.takeLook(api.LineShapes, rest)
	case wordRing:
		return r.takeLook(api.LineRing, rest)
	case wordState:
		return r.takeLook(api.LineState, rest)
	case wordOrder:
		return r.takeLook(api.LineOrder, rest)
	case wordWords:
		return r.takeLook(api.LineWords, rest)
	}
	return api.ErrText
}

// enter: may a line of a part behind the first line stand here? If so, that part is reached.
func (r *reader) enter(part int) bool {
	if r.part == partNone || r.part > part {
		return false
	}
	r.part = part
	return true
}

// takeConfig takes what stands behind the word config.
func (r *reader) takeConfig(words []string) api.Errno {
	if r.part != partNone || len(words) != 6 {
		return api.ErrText
	}
	n, are := each(words[:5], number)
	mode := words[5]
	if !are || mode != wordSingle && mode != wordMulti {
		return api.ErrText
	}
	r.part = partConfig
	r.setup.Config = api.Config{
		Raw: int(n[0]), Ring: int(n[1]), Writes: int(n[2]), Stamps: n[3], Tries: int(n[4]), Multi: mode == wordMulti,
	}
	return api.OK
}

// takeRegion takes what stands behind the word region.
func (r *reader) takeRegion(words []string) api.Errno {
	if !r.enter(partConfig) || len(words) != 2 {
		return api.ErrText
	}
	kind, isKind := kindOf(words[0])
	most, isNumber := number(words[1])
	if !isKind || !isNumber {
		return api.ErrText
	}
	r.setup.Config.Regions = append(r.setup.Config.Regions, api.Region{Kind: kind, Cap: int(most)})
	return api.OK
}

// takeProgram takes what stands behind the word program.
func (r *reader) takeProgram(words []string) api.Errno {
	if !r.enter(partPrograms) || len(words) > 0 {
		return api.ErrText
	}
	if len(r.setup.Programs) == api.MaxPrograms {
		return api.ErrFull
	}
	r.within = true
	return api.OK
}

// takeThread takes what stands behind the word thread.
func (r *reader) takeThread(words []string) api.Errno {
	if !r.enter(partThreads) || len(words) > 0 {
		return api.ErrText
	}
	if len(r.setup.Threads) == api.MaxThreads {
		return api.ErrFull
	}
	r.setup.Threads = append(r.setup.Threads, nil)
	return api.OK
}

// takeJob takes what stands behind the word job.
func (r *reader) takeJob(words []string) api.Errno {
	if r.part != partThreads || len(words) == 0 {
		return api.ErrText
	}
	program, is := number(words[0])
	args, are := each(words[1:], integer)
	if !is || !are {
		return api.ErrText
	}
	thread := &r.setup.Threads[len(r.setup.Threads)-1]
	if len(*thread) == api.MaxJobs || len(args) > api.MaxArgs {
		return api.ErrFull
	}
	if program >= int64(len(r.setup.Programs)) {
		return api.ErrName
	}
	*thread = append(*thread, api.Job{Program: int(program), Args: args})
	return api.OK
}

// takeSteps takes what stands behind the word run.
func (r *reader) takeSteps(words []string) api.Errno {
	if !r.enter(partLines) || len(words) == 0 {
		return api.ErrText
	}
	var items []item
	for _, word := range words {
		i, is := itemOf(word)
		if !is {
			return api.ErrText
		}
		items = append(items, i)
		r.steps += i.steps
	}
	// No list ahead of that: the items may ask for far more steps.
	if r.steps > api.MaxSteps {
		return api.ErrFull
	}
	r.lines = append(r.lines, api.Line{Kind: api.LineStep, Threads: stepsOf(items)})
	return api.OK
}

// takeLook takes what stands behind the word of a line that looks at the world.
func (r *reader) takeLook(kind int, words []string) api.Errno {
	if !r.enter(partLines) || len(words) > 0 {
		return api.ErrText
	}
	r.lines = append(r.lines, api.Line{Kind: kind})
	return api.OK
}

// stepsOf are the threads of all steps of some items.
func stepsOf(items []item) []int {
	var threads []int
	for _, i := range items {
		for range i.steps {
			threads = append(threads, i.thread)
		}
	}
	return threads
}
