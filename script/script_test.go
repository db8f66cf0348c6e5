package script_test

import (
	"fmt"
	"reflect"
	"slices"
	"strings"
	"testing"

	"carousel/api"
	"carousel/script"
)

// head is a configuration's line, and first is it as a configuration.
const head = "config 2 4 8 100 3 multi\n"

func first() api.Config {
	return api.Config{Raw: 2, Ring: 4, Writes: 8, Stamps: 100, Tries: 3, Multi: true}
}

// example is the chapter's script, what it says, and how it is told again.
const example = head + "region queue 2\nprogram\npush8 7\ncput 0\ndrop\ntell\ncommit\nend\nthread\njob 0 5 -1\nrun 0 0*12 1\ncells\n"

const exampleAgain = head + "region queue 2\nprogram\npush8 7\ncput 0\ndrop\ntell\ncommit\nend\nthread\njob 0 5 -1\nrun 0*13 1\ncells\n"

func exampleSays() (api.Setup, []api.Line) {
	c := first()
	c.Regions = []api.Region{{Kind: api.KindQueue, Cap: 2}}
	return api.Setup{Config: c, Programs: []string{"\x01\x07\x23\x00\x05\x1d\x00"}, Threads: [][]api.Job{{job(0, 5, -1)}}}, []api.Line{steps(0, 0, 0, 0, 0, 0, 0, 0, 0, 0, 0, 0, 0, 1), {Kind: api.LineCells}}
}

func job(program int, args ...int64) api.Job {
	return api.Job{Program: program, Args: args}
}

func steps(threads ...int) api.Line {
	return api.Line{Kind: api.LineStep, Threads: threads}
}

// with is a setup of the first configuration, with programs that commit at once.
func with(programs int, threads ...[]api.Job) api.Setup {
	return api.Setup{Config: first(), Programs: slices.Repeat([]string{"\x00"}, programs), Threads: threads}
}

// program is the text of such a program.
const program = "program\ncommit\nend\n"

// plainly is a setup in which no list is empty without being nil, and none has a part of another.
func plainly(s api.Setup) api.Setup {
	c := api.Setup{Config: s.Config, Programs: append([]string(nil), s.Programs...)}
	c.Config.Regions = append([]api.Region(nil), s.Config.Regions...)
	for _, jobs := range s.Threads {
		var list []api.Job
		for _, j := range jobs {
			list = append(list, job(j.Program, append([]int64(nil), j.Args...)...))
		}
		c.Threads = append(c.Threads, list)
	}
	return c
}

// plainLines are lines in which no list is empty without being nil.
func plainLines(l []api.Line) []api.Line {
	var list []api.Line
	for _, line := range l {
		list = append(list, api.Line{Kind: line.Kind, Threads: append([]int(nil), line.Threads...)})
	}
	return list
}

// same: do both say the same?
func same(s, other api.Setup, l, others []api.Line) bool {
	return reflect.DeepEqual(plainly(s), plainly(other)) && reflect.DeepEqual(plainLines(l), plainLines(others))
}

// short is the beginning of a text.
func short(text string) string {
	return text[:min(len(text), 300)]
}

// brief is the beginning of what a value is.
func brief(value any) string {
	return short(fmt.Sprintf("%+v", value))
}

// says: P24.1: a text says this.
func says(t *testing.T, text string, s api.Setup, l ...api.Line) {
	t.Helper()
	if got, lines, why, at := script.Parse(text); why != api.OK || at != 0 || !same(got, s, lines, l) {
		t.Errorf("Parse(%q): %s, %s, error %d at %d, not %s, %s", short(text), brief(got), brief(lines), why, at, brief(s), brief(l))
	}
}

// wrong: P24.1: this is what is wrong with a text first.
func wrong(t *testing.T, text string, want api.Errno, place int) {
	t.Helper()
	if s, l, why, at := script.Parse(text); why != want || at != place || !reflect.DeepEqual(s, api.Setup{}) || len(l) != 0 {
		t.Errorf("Parse(%q): %s, %s, error %d at %d, not %d at %d", short(text), brief(s), brief(l), why, at, want, place)
	}
}

// behind: P24.1: so it is with what stands behind a text that is right: the place is one of the rest.
func behind(t *testing.T, ahead, rest string, want api.Errno, place int) {
	t.Helper()
	wrong(t, ahead+rest, want, len(ahead)+place)
}

// refuses: P24.2: of this there is no text.
func refuses(t *testing.T, s api.Setup, l []api.Line, want api.Errno) {
	t.Helper()
	if text, why := script.Print(s, l); text != "" || why != want {
		t.Errorf("Print(%s, %s): %q, error %d, not %d", brief(s), brief(l), short(text), why, want)
	}
}

// tells: P24.2, P24.3: this is the text, and it says the same.
func tells(t *testing.T, want string, s api.Setup, l ...api.Line) {
	t.Helper()
	if text, why := script.Print(s, l); text != want || why != api.OK {
		t.Errorf("Print(%s, %s): %q, error %d, not %q", brief(s), brief(l), short(text), why, short(want))
	}
	says(t, want, s, l...)
}

// P24.1, P24.2: the chapter's first example.
func TestExample(t *testing.T) {
	s, l := exampleSays()
	says(t, example, s, l...)
	tells(t, exampleAgain, s, l...)
}

// P24.1: the chapter's other examples.
func TestExamplesOfFaults(t *testing.T) {
	wrong(t, "config 2 4 8 100 3\n", api.ErrText, 0)
	wrong(t, "config 02 4 8 100 3 multi\n", api.ErrText, 0)
	wrong(t, "", api.ErrText, 0)
	behind(t, head+program+"thread\n", "job 1\n", api.ErrName, 0)
	for _, line := range []string{"run 0*1\n", "run 100\n", "run\n"} {
		behind(t, head, line, api.ErrText, 0)
	}
	behind(t, head+"run 0*20000\n", "run 0\n", api.ErrFull, 0)
	wrong(t, "config 0 1 1 1 1 single\n", api.ErrConfig, 0)
	behind(t, head+"program\n", "nop\nend\n", api.ErrText, 0)
}

// P24.1: the least script, and what each word and number of its line says.
func TestConfig(t *testing.T) {
	says(t, head, with(0))
	tells(t, head, with(0))
	tells(t, "config 1 2 3 4 5 single\n", api.Setup{Config: api.Config{Raw: 1, Ring: 2, Writes: 3, Stamps: 4, Tries: 5}})
	tells(t, "config 1 2 3 4 5 multi\n", api.Setup{Config: api.Config{Raw: 1, Ring: 2, Writes: 3, Stamps: 4, Tries: 5, Multi: true}})
	tells(t, "config 64 16 24 1099511627776 255 single\n", api.Setup{Config: api.Config{Raw: 64, Ring: 16, Writes: 24, Stamps: 1 << 40, Tries: 255}})
	tells(t, "config 1 1 1 1 1 single\n", api.Setup{Config: api.Config{Raw: 1, Ring: 1, Writes: 1, Stamps: 1, Tries: 1}})
}

// P24.1: no region, one of each kind, and as many as there may be.
func TestRegions(t *testing.T) {
	s := with(0)
	s.Config.Regions = []api.Region{{Kind: api.KindCounter, Cap: 1}, {Kind: api.KindQueue, Cap: 0}, {Kind: api.KindDict, Cap: 16}, {Kind: api.KindChain, Cap: 10}}
	text := head + "region counter 1\nregion queue 0\nregion dict 16\nregion chain 10\n"
	tells(t, text, s)
	s.Config.Regions = append(s.Config.Regions, s.Config.Regions...)
	tells(t, text+text[len(head):], s)
	s.Config.Regions = []api.Region{{Kind: api.KindDict, Cap: 3}, {Kind: api.KindDict, Cap: 3}}
	tells(t, head+"region dict 3\nregion dict 3\n", s)
}

// P24.1: no program, an empty one, several; their texts are those of chapter 14.
func TestPrograms(t *testing.T) {
	tells(t, head+program, with(1))
	tells(t, head+program+program+program, with(3))
	s := with(3)
	s.Programs[1] = ""
	tells(t, head+program+"program\nend\n"+program, s)
	s.Programs = []string{"\x18\xfd\xff\x18\x00\x00", "\x02\xfe\xff\x18\x01\x00\x02\x05\x00"}
	tells(t, head+"program\nL0:\njump L0\njump L6\nL6:\nend\nprogram\npush16 -2\njump 1\npush16 5\nend\n", s)
	// Many ways to write one.
	s.Programs = s.Programs[:1]
	for _, text := range []string{"a: jump a\njump b\nb:\n", "\n\n # config\na:\n\tjump \t a # end\n jump b\n\nb: \n", "# \xff\xe4\u00e4 program\nend: jump end\nthread: jump _\n_:\n", "jump -3\njump 0\n"} {
		says(t, head+"program\n"+text+"end\n", s)
		says(t, head+"program\n"+text+"end\ncells\n", s, api.Line{Kind: api.LineCells})
	}
	says(t, head+"program\n\nend\n", api.Setup{Config: first(), Programs: []string{""}})
	says(t, head+"program\n#end\n\nend\n", api.Setup{Config: first(), Programs: []string{""}})
}

// P24.1: no thread, such as have no job, several; jobs without arguments, with several, of each program.
func TestThreads(t *testing.T) {
	tells(t, head+"thread\n", with(0, nil))
	tells(t, head+"thread\nthread\nthread\n", with(0, nil, nil, nil))
	tells(t, head+program+"thread\njob 0\n", with(1, []api.Job{job(0)}))
	tells(t, head+program+program+"thread\njob 1 0\njob 0 -1 1\njob 1\nthread\nthread\njob 0 9 8 7 6\n",
		with(2, []api.Job{job(1, 0), job(0, -1, 1), job(1)}, nil, []api.Job{job(0, 9, 8, 7, 6)}))
	tells(t, head+program+"thread\njob 0 9223372036854775807 -9223372036854775808 -9223372036854775807 10\n",
		with(1, []api.Job{job(0, 1<<63-1, -1<<63, -1<<63+1, 10)}))
	many := slices.Repeat([]string{program}, api.MaxPrograms)
	tells(t, head+strings.Join(many, "")+"thread\njob 15\njob 10\njob 9\n", with(16, []api.Job{job(15), job(10), job(9)}))
}

// looks are the words of the lines that look at the world, by their kinds.
var looks = []string{api.LineCells: "cells", api.LineShapes: "shapes", api.LineRing: "ring", api.LineState: "state", api.LineOrder: "order", api.LineWords: "words"}

// P24.1: each line behind the setup, one alone, and each behind each.
func TestLines(t *testing.T) {
	list := []string{"run 7\n"}
	of := []api.Line{steps(7)}
	for kind := api.LineCells; kind <= api.LineWords; kind++ {
		list = append(list, looks[kind]+"\n")
		of = append(of, api.Line{Kind: kind})
	}
	for i, line := range list {
		for _, ahead := range []string{"", program, "thread\n", program + "thread\njob 0\n"} {
			s := with(strings.Count(ahead, program))
			if strings.Contains(ahead, "thread") {
				s.Threads = [][]api.Job{slices.Repeat([]api.Job{job(0)}, strings.Count(ahead, "job"))}
			}
			tells(t, head+ahead+line, s, of[i])
			for k, other := range list {
				tells(t, head+ahead+line+other, s, of[i], of[k])
				tells(t, head+ahead+line+other+line, s, of[i], of[k], of[i])
			}
		}
	}
	tells(t, head+strings.Join(list, ""), with(0), of...)
	slices.Reverse(list)
	slices.Reverse(of)
	tells(t, head+strings.Join(list, ""), with(0), of...)
}

// P24.1, P24.2: steps, one by one and many of one thread; as text those side by side are one item, within their line.
func TestSteps(t *testing.T) {
	tells(t, head+"run 0\n", with(0), steps(0))
	tells(t, head+"run 99\n", with(0), steps(99))
	tells(t, head+"run 0 1 0\n", with(0), steps(0, 1, 0))
	tells(t, head+"run 0*2 1*3 0\n", with(0), steps(0, 0, 1, 1, 1, 0))
	tells(t, head+"run 99*10 10 99*2\n", with(0), steps(99, 99, 99, 99, 99, 99, 99, 99, 99, 99, 10, 99, 99))
	tells(t, head+"run 5\nrun 5\nrun 5*2\n", with(0), steps(5), steps(5), steps(5, 5))
	tells(t, head+"run 3\ncells\nrun 3\n", with(0), steps(3), api.Line{Kind: api.LineCells}, steps(3))
	says(t, head+"run 4 4\n", with(0), steps(4, 4))
	says(t, head+"run 4*2 4 4*3 5 4\n", with(0), steps(4, 4, 4, 4, 4, 4, 5, 4))
	says(t, head+"run 1 2*2\nrun 2\n", with(0), steps(1, 2, 2), steps(2))
	for _, n := range []int{2, 9, 10, 11, 99, 100, 101, 1000, api.MaxSteps - 1, api.MaxSteps} {
		tells(t, head+"run 42*"+decimal(n)+"\n", with(0), steps(slices.Repeat([]int{42}, n)...))
	}
	for thread := range 100 {
		tells(t, head+"run "+decimal(thread)+" "+decimal(99-thread)+"*2\n", with(0), steps(thread, 99-thread, 99-thread))
	}
}
