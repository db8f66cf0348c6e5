package script_test

import (
	"fmt"
	"math/big"
	"regexp"
	"slices"
	"strconv"
	"strings"
	"testing"

	"carousel/api"
	"carousel/asm"
	"carousel/place"
	"carousel/script"
)

// What follows reckons Parse and Print anew, from the chapter's words: its lines as patterns, and their order as one over the letters of their kinds.

const (
	numberForm  = `(?:0|[1-9][0-9]*)`
	integerForm = `(?:0|-?[1-9][0-9]*)`
	itemForm    = `(?:[0-9]|[1-9][0-9])(?:\*` + numberForm + `)?`
)

// forms are the lines' patterns, by their letters.
var forms = map[byte]*regexp.Regexp{
	'c': regexp.MustCompile(`^config( ` + numberForm + `){5} (single|multi)\n$`),
	'r': regexp.MustCompile(`^region (counter|queue|dict|chain) ` + numberForm + `\n$`),
	'p': regexp.MustCompile(`^program\n$`),
	't': regexp.MustCompile(`^thread\n$`),
	'j': regexp.MustCompile(`^job ` + numberForm + `( ` + integerForm + `)*\n$`),
	's': regexp.MustCompile(`^run( ` + itemForm + `)+\n$`),
	'l': regexp.MustCompile(`^(cells|shapes|ring|state|order|words)\n$`),
}

// order is that of the lines; what is the beginning of such a row is one itself, but for the empty one.
var order = regexp.MustCompile(`^cr*p*(tj*)*[sl]*$`)

// A number as it stands in a line; times are those behind a star.
var (
	figures = regexp.MustCompile(`-?[0-9]+`)
	times   = regexp.MustCompile(`\*([0-9]+)`)
)

// inRange: are all numbers of a line in their range?
func inRange(line string) bool {
	least, most := big.NewInt(-1<<63), big.NewInt(1<<63-1)
	for _, text := range figures.FindAllString(line, -1) {
		n, _ := new(big.Int).SetString(text, 10)
		if n.Cmp(least) < 0 || n.Cmp(most) > 0 {
			return false
		}
	}
	for _, text := range times.FindAllStringSubmatch(line, -1) {
		if n, err := strconv.Atoi(text[1]); err != nil || n < 2 || n > 20000 {
			return false
		}
	}
	return true
}

// letterOf is the letter of a line's kind; 0: it is none.
func letterOf(line string) byte {
	for letter, form := range forms {
		if form.MatchString(line) && inRange(line) {
			return letter
		}
	}
	return 0
}

// numbersOf are the numbers of a line.
func numbersOf(line string) []int64 {
	var list []int64
	for _, text := range figures.FindAllString(line, -1) {
		n, _ := strconv.ParseInt(text, 10, 64)
		list = append(list, n)
	}
	return list
}

// threadsOf are the steps of a line run.
func threadsOf(line string) []int {
	var list []int
	for _, text := range strings.Fields(line)[1:] {
		n := numbersOf(text)
		list = append(list, slices.Repeat([]int{int(n[0])}, int(append(n, 1)[1]))...)
	}
	return list
}

// twin is what Parse should answer.
type twin struct {
	setup   api.Setup
	lines   []api.Line
	letters string
	steps   int
}

// parsed is what Parse should answer.
func parsed(s string) (twin, api.Errno, int) {
	if len(s) > 65535 {
		return twin{}, api.ErrText, 65535
	}
	var w twin
	at, rest := 0, s
	for rest != "" {
		line, more, _ := strings.Cut(rest, "\n")
		line = rest[:len(rest)-len(more)]
		if why := w.take(line); why != api.OK {
			return twin{}, why, at
		}
		at, rest = at+len(line), more
		if line != "program\n" {
			continue
		}
		end := strings.Index("\n"+rest, "\nend\n")
		if end < 0 {
			return twin{}, api.ErrText, len(s)
		}
		bytes, why, place := asm.Parse(rest[:end])
		if why != api.OK {
			return twin{}, why, at + place
		}
		w.setup.Programs = append(w.setup.Programs, bytes)
		at, rest = at+end+len("end\n"), rest[end+len("end\n"):]
	}
	if w.letters == "" {
		return twin{}, api.ErrText, 0
	}
	if why := place.Check(w.setup.Config); why != api.OK {
		return twin{}, api.ErrConfig, 0
	}
	return w, api.OK, 0
}

// take takes a line, if it may stand there.
func (w *twin) take(line string) api.Errno {
	letter := letterOf(line)
	if w.letters += string(rune(letter)); letter == 0 || !order.MatchString(w.letters) {
		return api.ErrText
	}
	n := numbersOf(line)
	set := &w.setup
	last := len(set.Threads) - 1
	switch letter {
	case 'c':
		set.Config = api.Config{Raw: int(n[0]), Ring: int(n[1]), Writes: int(n[2]), Stamps: n[3], Tries: int(n[4]), Multi: strings.Contains(line, "multi")}
	case 'r':
		set.Config.Regions = append(set.Config.Regions, api.Region{Kind: 1 + strings.Index("cqdc", line[7:8]) + 3*strings.Count(line, "chain"), Cap: int(n[0])})
	case 'p':
		if strings.Count(w.letters, "p") > 16 {
			return api.ErrFull
		}
	case 't':
		if set.Threads = append(set.Threads, nil); len(set.Threads) > 8 {
			return api.ErrFull
		}
	case 'j':
		if len(set.Threads[last]) == 32 || len(n) > 5 {
			return api.ErrFull
		}
		if n[0] >= int64(len(set.Programs)) {
			return api.ErrName
		}
		set.Threads[last] = append(set.Threads[last], job(int(n[0]), n[1:]...))
	case 's':
		threads := threadsOf(line)
		if w.steps += len(threads); w.steps > 20000 {
			return api.ErrFull
		}
		w.lines = append(w.lines, steps(threads...))
	case 'l':
		w.lines = append(w.lines, api.Line{Kind: slices.Index(looks, strings.TrimSpace(line))})
	}
	return api.OK
}

// itemsOf are steps, the same ones side by side as one item.
func itemsOf(threads []int) string {
	var text strings.Builder
	for len(threads) > 0 {
		n := slices.IndexFunc(threads, func(thread int) bool { return thread != threads[0] })
		if n < 0 {
			n = len(threads)
		}
		fmt.Fprint(&text, " ", threads[0])
		if n > 1 {
			fmt.Fprint(&text, "*", n)
		}
		threads = threads[n:]
	}
	return text.String()
}

// printed is what Print should answer of what may be, however long it is.
func printed(t *testing.T, s api.Setup, l []api.Line) string {
	t.Helper()
	var text strings.Builder
	c := s.Config
	fmt.Fprintln(&text, "config", c.Raw, c.Ring, c.Writes, c.Stamps, c.Tries, map[bool]string{false: "single", true: "multi"}[c.Multi])
	for _, r := range c.Regions {
		fmt.Fprintln(&text, "region", []string{1: "counter", 2: "queue", 3: "dict", 4: "chain"}[r.Kind], r.Cap)
	}
	for _, bytes := range s.Programs {
		lines, why := asm.Print(bytes)
		if why != api.OK {
			t.Fatalf("%x: error %d", bytes, why)
		}
		fmt.Fprintf(&text, "program\n%send\n", lines)
	}
	for _, jobs := range s.Threads {
		fmt.Fprintln(&text, "thread")
		for _, j := range jobs {
			fmt.Fprint(&text, "job ", j.Program)
			for _, arg := range j.Args {
				fmt.Fprint(&text, " ", arg)
			}
			fmt.Fprintln(&text)
		}
	}
	for _, line := range l {
		if line.Kind == api.LineStep {
			fmt.Fprintln(&text, "run"+itemsOf(line.Threads))
		} else {
			fmt.Fprintln(&text, looks[line.Kind])
		}
	}
	return text.String()
}

// holds: Parse answers what the words have, and Print of it, too; what is wrong is told.
func holds(t *testing.T, text string) api.Errno {
	t.Helper()
	want, errno, place := parsed(text)
	s, l, why, at := script.Parse(text)
	if why != errno || at != place || !same(s, want.setup, l, want.lines) {
		t.Fatalf("Parse(%q): %s, %s, error %d at %d, not %s, %s, error %d at %d", text, brief(s), brief(l), why, at, brief(want.setup), brief(want.lines), errno, place)
	}
	if why == api.OK {
		again(t, s, l)
	}
	return why
}

// again: P24.2, P24.3: Print answers the text that the words have, if it isn't too long, and that is parsed as the same.
func again(t *testing.T, s api.Setup, l []api.Line) api.Errno {
	t.Helper()
	want := printed(t, s, l)
	text, why := script.Print(s, l)
	if len(want) > 65535 {
		if text != "" || why != api.ErrFull {
			t.Fatalf("Print of %d bytes: %d bytes, error %d", len(want), len(text), why)
		}
		return why
	}
	if text != want || why != api.OK {
		t.Fatalf("Print(%s, %s): %q, error %d, not %q", brief(s), brief(l), text, why, want)
	}
	if got, lines, why, at := script.Parse(text); why != api.OK || at != 0 || !same(got, s, lines, l) {
		t.Fatalf("Parse(%q): %s, %s, error %d at %d, not %s, %s", text, brief(got), brief(lines), why, at, brief(s), brief(l))
	}
	return why
}

func decimal(n int) string { return strconv.Itoa(n) }
