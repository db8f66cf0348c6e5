package script

import (
	"strconv"
	"strings"

	"carousel/api"
	"carousel/asm"
)

// writer is what was written of a script.
type writer struct {
	text []byte
}

// put writes a line.
func (w *writer) put(words ...string) {
	w.text = append(w.text, strings.Join(words, " ")+"\n"...)
}

// putConfig writes a configuration that may be.
func (w *writer) putConfig(c api.Config) {
	mode := wordSingle
	if c.Multi {
		mode = wordMulti
	}
	w.put(wordConfig, strconv.Itoa(c.Raw), strconv.Itoa(c.Ring), strconv.Itoa(c.Writes), strconv.FormatInt(c.Stamps, 10), strconv.Itoa(c.Tries), mode)
	for _, region := range c.Regions {
		w.put(wordRegion, kindWord(region.Kind), strconv.Itoa(region.Cap))
	}
}

// putPrograms writes programs, of which the texts are made already.
func (w *writer) putPrograms(texts []string) {
	for _, text := range texts {
		w.put(wordProgram)
		w.text = append(w.text, text...)
		w.put(wordEnd)
	}
}

// putThreads writes threads and their jobs.
func (w *writer) putThreads(threads [][]api.Job) {
	for _, jobs := range threads {
		w.put(wordThread)
		for _, job := range jobs {
			words := []string{wordJob, strconv.Itoa(job.Program)}
			for _, arg := range job.Args {
				words = append(words, strconv.FormatInt(arg, 10))
			}
			w.put(words...)
		}
	}
}

// wordsOf are those of a line that may be.
func wordsOf(l api.Line) []string {
	if l.Kind != api.LineStep {
		return []string{lookWord(l.Kind)}
	}
	words := []string{wordRun}
	for _, i := range itemsOf(l.Threads) {
		words = append(words, itemWord(i))
	}
	return words
}

// itemsOf are steps as items: those of one thread that stand side by side are one.
func itemsOf(threads []int) []item {
	var items []item
	for at, thread := range threads {
		if at == 0 || threads[at-1] != thread {
			items = append(items, item{thread: thread})
		}
		items[len(items)-1].steps++
	}
	return items
}

// programTexts are programs as text; false: one of them is none.
func programTexts(programs []string) ([]string, bool) {
	var texts []string
	for _, program := range programs {
		text, why := asm.Print(program)
		if why != api.OK {
			return nil, false
		}
		texts = append(texts, text)
	}
	return texts, true
}

// haveRoom: is nothing of a setup too many, and is there a program for each job?
func haveRoom(s api.Setup) bool {
	if len(s.Programs) > api.MaxPrograms || len(s.Threads) > api.MaxThreads {
		return false
	}
	for _, jobs := range s.Threads {
		if len(jobs) > api.MaxJobs {
			return false
		}
		for _, job := range jobs {
			if job.Program < 0 || job.Program >= len(s.Programs) || len(job.Args) > api.MaxArgs {
				return false
			}
		}
	}
	return true
}

// areLines: may these lines be, each and all together?
func areLines(l []api.Line) bool {
	steps := 0
	for _, line := range l {
		if !isLine(line) {
			return false
		}
		steps += len(line.Threads)
	}
	return steps <= api.MaxSteps
}

// isLine: may a line be?
func isLine(l api.Line) bool {
	if l.Kind != api.LineStep {
		return lookWord(l.Kind) != "" && len(l.Threads) == 0
	}
	for _, thread := range l.Threads {
		if thread < 0 || thread > maxThread {
			return false
		}
	}
	return len(l.Threads) > 0
}
