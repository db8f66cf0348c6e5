package script_test

import (
	"fmt"
	"slices"
	"strings"
	"testing"

	"carousel/api"
	"carousel/place"
	"carousel/script"
)

// full is a text of just so many bytes, which says nothing but the first configuration and an empty program.
func full(size int) string {
	frame := head + "program\n#\nend\n"
	return strings.Replace(frame, "#", strings.Repeat("#", size-len(frame)+1), 1)
}

// P24.1: a text of MaxScript bytes, and of one more; that is told ahead of all other faults.
func TestMostBytes(t *testing.T) {
	s := api.Setup{Config: first(), Programs: []string{""}}
	for _, size := range []int{1000, api.MaxScript - 1, api.MaxScript} {
		says(t, full(size), s)
		behind(t, full(size-1), "\n", api.ErrText, 0)
		behind(t, full(size-1), "x", api.ErrText, 0)
	}
	for _, size := range []int{1, 2, 1000, 1 << 16, 1 << 20} {
		wrong(t, full(api.MaxScript+size), api.ErrText, api.MaxScript)
		wrong(t, full(api.MaxScript)+strings.Repeat("\n", size), api.ErrText, api.MaxScript)
		wrong(t, strings.Repeat("#", api.MaxScript+size), api.ErrText, api.MaxScript)
		wrong(t, strings.Repeat("\n", api.MaxScript+size), api.ErrText, api.MaxScript)
		wrong(t, "config 0 1 1 1 1 single\n"+strings.Repeat("cells\n", 10921+size), api.ErrText, api.MaxScript)
		wrong(t, head+"program\n"+strings.Repeat("\xff", api.MaxScript+size), api.ErrText, api.MaxScript)
	}
	wrong(t, strings.Repeat("#", api.MaxScript), api.ErrText, 0)
	wrong(t, strings.Repeat("\n", api.MaxScript), api.ErrText, 0)
	// Bytes are counted, whatever runes they are.
	says(t, strings.Replace(full(api.MaxScript), "####", "#\u00e4\xff", 1), s)
	wrong(t, strings.Replace(full(api.MaxScript+1), "####", "#\u00e4\xff", 1), api.ErrText, api.MaxScript)
}

// P24.1: a last line that lacks its line feed; within a program that is told at the text's end.
func TestLastLineFeed(t *testing.T) {
	whole := "config 2 4 8 100 3 multi\nregion queue 2\nprogram\npush8 7\ncommit\nend\nprogram\nend\nthread\njob 0 5 -1\nthread\nrun 0 0*12 1\ncells\nwords\n"
	// Where a text that ends there is wrong; the lines of programs and their ends are told at the end.
	for _, ahead := range []struct {
		text   string
		within bool
	}{
		{"", false}, {"config 2 4 8 100 3 multi\n", false}, {"region queue 2\n", false}, {"program\n", true}, {"push8 7\n", true}, {"commit\n", true}, {"end\n", false},
		{"program\n", true}, {"end\n", false}, {"thread\n", false}, {"job 0 5 -1\n", false}, {"thread\n", false}, {"run 0 0*12 1\n", false}, {"cells\n", false}, {"words\n", false},
	} {
		begin := strings.Index(whole, ahead.text)
		text := whole[:begin+len(ahead.text)]
		if ahead.within {
			wrong(t, text, api.ErrText, len(text))
		} else if text != "" {
			if _, _, why, at := script.Parse(text); why != api.OK || at != 0 {
				t.Errorf("Parse(%q): error %d at %d", text, why, at)
			}
		}
		next, _, more := strings.Cut(whole[len(text):], "\n")
		if !more {
			continue
		}
		for n := range len(next) + 1 {
			if cut := next[:n]; ahead.within {
				wrong(t, text+cut, api.ErrText, len(text)+n)
			} else if n > 0 {
				behind(t, text, cut, api.ErrText, 0)
			}
		}
	}
	wrong(t, "config 2 4 8 100 3 multi", api.ErrText, 0)
	behind(t, head, "program\nend", api.ErrText, 11)
	behind(t, head, "program\nnop\nend", api.ErrText, 15)
	behind(t, head, "program\nnop\n", api.ErrText, 12)
	behind(t, head, "program", api.ErrText, 0)
	behind(t, head, "program\nend\nend", api.ErrText, 12)
	behind(t, head, "program\nnop\nend\ncells", api.ErrText, 8)
	// What lacks its line feed is no line, and so not one too many.
	behind(t, head+strings.Repeat(program, 16), "program", api.ErrText, 0)
	behind(t, head+"run 0*20000\n", "run 0", api.ErrText, 0)
	behind(t, head+"thread\n", "job 0", api.ErrText, 0)
}

// P24.1: no line config, one that isn't the first, two of them.
func TestOneConfig(t *testing.T) {
	for _, text := range []string{"", "\n", " ", "x", "x\n", "\xff", "cells\n", "thread\n", "region queue 1\n", "program\nend\n", "end\n", "run 0\n", "job 0\n", "\n" + head, "region queue 1\n" + head, "cells\n" + head, program + head, "thread\n" + head, "#\n" + head, " " + head} {
		wrong(t, text, api.ErrText, 0)
	}
	for _, ahead := range []string{"", "region queue 1\n", program, "thread\n", "run 0\n", "cells\n"} {
		behind(t, head+ahead, head, api.ErrText, 0)
		behind(t, head+ahead, "config 1 1 1 1 1 single\n", api.ErrText, 0)
	}
}

// P24.1: which line may stand behind which.
func TestOrderOfLines(t *testing.T) {
	list := []string{head, "region chain 3\n", program, "thread\n", "job 0\n", "run 1\n", "cells\n", "shapes\n", "ring\n", "state\n", "order\n", "words\n"}
	// So many of the list, from the second one on, are ahead of the lines that may stand in any order.
	const region, prog, thread, jobs, lines = 1, 2, 3, 4, 5
	ahead := []string{head, head + "region chain 3\n", head + program, head + program + "thread\n", head + program + "thread\njob 0\n"}
	for i := lines; i < len(list); i++ {
		ahead = append(ahead, head+program+list[i])
	}
	for last, text := range ahead {
		for next, line := range list {
			var may bool
			switch {
			case next == 0:
				may = false
			case next == region:
				may = last <= region
			case next == prog:
				may = last <= prog
			case next == thread:
				may = last <= jobs
			case next == jobs:
				may = last == thread || last == jobs
			default:
				may = true
			}
			if !may {
				behind(t, text, line, api.ErrText, 0)
				behind(t, text, line+"x\n", api.ErrText, 0)
			} else if holds(t, text+line) != api.OK {
				t.Errorf("%q is refused", text+line)
			}
		}
		for _, line := range []string{"end\n", "\n", " \n", "push8 7\n", "# a remark\n", "x\n"} {
			behind(t, text, line, api.ErrText, 0)
		}
	}
}

// eachLine is each line, and what it may stand behind.
func eachLine() map[string]string {
	list := map[string]string{
		"config 2 4 8 100 3 multi": "", "region queue 2": head, "program": head, "thread": head + program, "job 0": head + program + "thread\n", "job 0 5 -1": head + program + "thread\njob 0\n",
		"run 0": head, "run 0*12 1": head + program + "cells\n",
	}
	for _, look := range looks[api.LineCells:] {
		list[look] = head + program
	}
	return list
}

// P24.1: words and numbers are parted by one blank, and nothing else stands there.
func TestBlanks(t *testing.T) {
	none := 0
	for line, ahead := range eachLine() {
		var spoilt []string
		for _, other := range []string{" ", "  ", "\t", "\r", "\v", "\x00", "\u00a0", "\u2003", "\xff", "\x80", "\ufffd", "#", "# ", " #", ",", ";", "*", "-", "+", ".", "_", "x", "0x"} {
			spoilt = append(spoilt, other+line, line+other)
			for at, c := range line {
				if c == ' ' {
					spoilt = append(spoilt, line[:at]+other+line[at:], line[:at]+other+line[at+1:], line[:at+1]+other+line[at+1:])
				}
			}
		}
		spoilt = append(spoilt, strings.ReplaceAll(line, " ", "  "), strings.ToUpper(line), strings.ToUpper(line[:1])+line[1:], line[1:], line[:len(line)-1], line+" "+line, line+line, "")
		for _, text := range spoilt {
			holds(t, ahead+text+"\n")
			if letterOf(text+"\n") == 0 && !strings.Contains(text, "\n") {
				behind(t, ahead, text+"\n", api.ErrText, 0)
				behind(t, ahead, text+"\ncells\nx\n", api.ErrText, 0)
				none++
			}
		}
		behind(t, ahead, "\n"+line+"\n", api.ErrText, 0)
	}
	if none < 1000 {
		t.Errorf("just %d are no lines", none)
	}
}

// P24.1: how many words a line has.
func TestCounts(t *testing.T) {
	for _, line := range []string{"config\n", "config 1\n", "config 1 1 1 1 multi\n", "config 1 1 1 1 1\n", "config 1 1 1 1 1 1\n", "config 1 1 1 1 1 1 multi\n", "config 1 1 1 1 1 multi multi\n", "config multi 1 1 1 1 1\n", "config 1 1 1 1 1 both\n", "config 1 1 1 1 1 Multi\n", "config 1 1 1 1 1 singles\n", "config -1 1 1 1 1 multi\n"} {
		wrong(t, line, api.ErrText, 0)
	}
	for _, line := range []string{"region\n", "region queue\n", "region 2\n", "region 2 queue\n", "region queue 2 2\n", "region queue queue\n", "region queues 2\n", "region bag 2\n", "region  2\n", "region cells 2\n", "region 1 2\n", "queue 2\n",
		"program 1\n", "program x\n", "programs\n", "thread 0\n", "thread thread\n", "threads\n", "run\n", "run x\n", "run 0 x\n", "run x 0\n", "runs 0\n", "cells 0\n", "shapes cells\n", "ring 1\n", "state 0\n", "order 0\n", "words 3\n", "word\n", "steps 0\n", "step 0\n", "end 0\n"} {
		behind(t, head, line, api.ErrText, 0)
		behind(t, head, line+"end\n", api.ErrText, 0)
	}
	for _, line := range []string{"job\n", "job x\n", "job 0 x\n", "job x 0\n", "job -0\n", "job -1\n", "job 0 0 0 0 x\n", "job 0 0 0 0 0 x\n", "job 0*2\n", "job 0,1\n", "jobs 0\n"} {
		behind(t, head+program+"thread\n", line, api.ErrText, 0)
	}
}

// numbers are words, by whether they are numbers, and whether they are integers.
func numbers() map[string][2]bool {
	list := map[string][2]bool{
		"9223372036854775807": {true, true}, "9223372036854775806": {true, true}, "9223372036854775808": {}, "9223372036854775809": {}, "18446744073709551615": {}, "18446744073709551616": {}, "18446744073709551617": {}, "10000000000000000000": {}, "99999999999999999999": {},
		"-1": {false, true}, "-9": {false, true}, "-10": {false, true}, "-9223372036854775807": {false, true}, "-9223372036854775808": {false, true}, "-9223372036854775809": {}, "-18446744073709551615": {}, "-18446744073709551616": {}, "-99999999999999999999": {},
		"": {}, "-": {}, "--1": {}, "-0": {}, "-00": {}, "-01": {}, "+0": {}, "+1": {}, "00": {}, "01": {}, "0123": {}, "000": {}, "09223372036854775807": {}, "1_0": {}, "0x1": {}, "0b1": {}, "0o7": {}, "1e3": {}, "1.0": {}, "1.": {}, ".1": {}, "1a": {}, "a1": {}, "1-": {}, "-1-": {}, "1-1": {}, "'1'": {},
		"\u0661": {}, "1\u0661": {}, "\uff11": {}, "\u22121": {}, "1\x00": {}, "\x001": {}, "1\xff": {}, "\xff": {}, "1\r": {}, "\t1": {}, "1\t": {}, "1,": {}, "1;": {}, "/": {}, ":": {}, "1/": {}, "1:": {},
	}
	for n := range 1000 {
		list[decimal(n)] = [2]bool{true, true}
	}
	return list
}

// P24.1: an N of config or of a region may be any number; what comes of it then is Check's.
func TestNumbers(t *testing.T) {
	for word, is := range numbers() {
		for at := range 5 {
			list := []string{"1", "1", "1", "1", "1"}
			list[at] = word
			line := "config " + strings.Join(list, " ") + " multi\n"
			if !is[0] {
				wrong(t, line, api.ErrText, 0)
				continue
			}
			behind(t, line, "x\n", api.ErrText, 0)
			n := numbersOf(word)[0]
			if most := []int64{64, 16, 24, 1 << 40, 255}[at]; n < 1 || n > most {
				wrong(t, line, api.ErrConfig, 0)
			} else if holds(t, line) != api.OK {
				t.Errorf("%q is refused", line)
			}
		}
		line := "region chain " + word + "\n"
		if !is[0] {
			behind(t, head, line, api.ErrText, 0)
			continue
		}
		behind(t, head+line, "x\n", api.ErrText, 0)
		if n := numbersOf(word)[0]; n > 16 {
			wrong(t, head+line, api.ErrConfig, 0)
		} else if holds(t, head+line) != api.OK {
			t.Errorf("%q is refused", line)
		}
	}
	wrong(t, "config 1 1 1 1099511627776 1 multi\nregion queue 16\nregion queue 17\n", api.ErrConfig, 0)
	wrong(t, "config 1 1 1 1099511627777 1 multi\n", api.ErrConfig, 0)
	// Such as would be right, if just a part of their bits counted.
	for _, word := range []string{"4294967297", "257", "65537", "4611686018427387905"} {
		wrong(t, "config "+word+" 1 1 1 1 multi\n", api.ErrConfig, 0)
		wrong(t, head+"region queue "+word+"\n", api.ErrConfig, 0)
	}
}

// P24.1: the number of a job and its arguments.
func TestNumbersOfJobs(t *testing.T) {
	for word, is := range numbers() {
		for programs := range 3 {
			ahead := head + strings.Repeat(program, programs) + "thread\n"
			for _, rest := range []string{"", " 0", " -1 1"} {
				line := "job " + word + rest + "\n"
				switch {
				case !is[0]:
					behind(t, ahead, line, api.ErrText, 0)
				case numbersOf(word)[0] >= int64(programs):
					behind(t, ahead, line, api.ErrName, 0)
				case holds(t, ahead+line) != api.OK:
					t.Errorf("%q is refused", ahead+line)
				}
			}
		}
		for _, line := range []string{"job 0 ?\n", "job 0 ? 1\n", "job 0 1 ?\n", "job 0 -1 2 ?\n", "job 0 1 2 3 ?\n"} {
			line := strings.Replace(line, "?", word, 1)
			if !is[1] {
				behind(t, head+program+"thread\n", line, api.ErrText, 0)
				continue
			}
			n := numbersOf(line)
			says(t, head+program+"thread\n"+line, with(1, []api.Job{job(0, n[1:]...)}))
		}
	}
}

// P24.1: a job's number is that of a program, from 0 to the last one.
func TestNames(t *testing.T) {
	for programs := range api.MaxPrograms + 1 {
		ahead := head + strings.Repeat(program, programs) + "thread\njob 0\n"
		if programs == 0 {
			behind(t, head+"thread\n", "job 0\n", api.ErrName, 0)
			behind(t, head+"thread\nthread\n", "job 0 1 2\nx\n", api.ErrName, 0)
			continue
		}
		for number := range programs {
			says(t, ahead+fmt.Sprintf("job %d\n", number), with(programs, []api.Job{job(0), job(number)}))
		}
		for _, number := range []int{programs, programs + 1, 16, 17, 99, 256, 1 << 32, 1<<63 - 1} {
			behind(t, ahead, fmt.Sprintf("job %d\n", number), api.ErrName, 0)
			behind(t, ahead, fmt.Sprintf("job %d -5 6\nx\n", number), api.ErrName, 0)
		}
	}
}

// P24.1: as many programs, threads, jobs, arguments as there may be, and one more.
func TestOneMore(t *testing.T) {
	programs := head + strings.Repeat(program, api.MaxPrograms)
	says(t, programs, with(16))
	for _, rest := range []string{"program\n", program, "program\nnop\nend\n", "program\nnop", "program\nx\n"} {
		behind(t, programs, rest, api.ErrFull, 0)
	}
	behind(t, programs, "program \n", api.ErrText, 0)
	behind(t, programs+"thread\n", "program\n", api.ErrText, 0)
	behind(t, programs+"run 0\n", "program\n", api.ErrText, 0)

	threads := head + program + strings.Repeat("thread\n", api.MaxThreads)
	says(t, threads, with(1, make([][]api.Job, 8)...))
	says(t, threads+"job 0\n", with(1, append(make([][]api.Job, 7), []api.Job{job(0)})...))
	behind(t, threads, "thread\n", api.ErrFull, 0)
	behind(t, threads+"job 0\n", "thread\nx\n", api.ErrFull, 0)
	behind(t, threads, "thread 1\n", api.ErrText, 0)
	behind(t, threads+"cells\n", "thread\n", api.ErrText, 0)

	jobs := head + program + "thread\n" + strings.Repeat("job 0\n", api.MaxJobs)
	most := slices.Repeat([]api.Job{job(0)}, api.MaxJobs)
	says(t, jobs, with(1, most))
	for _, rest := range []string{"job 0\n", "job 0 1\nx\n", "job 1\n", "job 1 2 3 4 5 6\n"} {
		behind(t, jobs, rest, api.ErrFull, 0)
	}
	for _, rest := range []string{"job\n", "job x\n", "job 0 x\n", "job 1 -0\n", "job -1\n"} {
		behind(t, jobs, rest, api.ErrText, 0)
	}
	// They are counted for each thread.
	says(t, jobs+"thread\njob 0\n", with(1, most, []api.Job{job(0)}))
	behind(t, jobs+"thread\n"+strings.Repeat("job 0 1 2 3 4\n", 32), "job 0\n", api.ErrFull, 0)
	all := head + program + strings.Repeat(strings.TrimPrefix(jobs, head+program), api.MaxThreads)
	says(t, all+"run 7\n", with(1, slices.Repeat([][]api.Job{most}, 8)...), steps(7))

	one := head + program + "thread\n"
	says(t, one+"job 0 1 2 3 4\n", with(1, []api.Job{job(0, 1, 2, 3, 4)}))
	for _, rest := range []string{"job 0 1 2 3 4 5\n", "job 0 1 2 3 4 5 6\nx\n", "job 1 1 2 3 4 5\n", "job 0" + strings.Repeat(" -1", 256) + "\n", "job 0" + strings.Repeat(" 7", 30000) + "\n"} {
		behind(t, one, rest, api.ErrFull, 0)
	}
	for _, rest := range []string{"job 0 1 2 3 4 x\n", "job 0 1 2 3 4 5 -0\n", "job 0 01 2 3 4 5\n", "job 0 1 2 3 4 5 \n"} {
		behind(t, one, rest, api.ErrText, 0)
	}
}

// P24.1: what an item is.
func TestItems(t *testing.T) {
	right := map[string][]int{"0": {0}, "1": {1}, "9": {9}, "10": {10}, "98": {98}, "99": {99}, "0*2": {0, 0}, "99*2": {99, 99}, "7*3": {7, 7, 7}, "0*20000": slices.Repeat([]int{0}, 20000), "10*19999": slices.Repeat([]int{10}, 19999)}
	for item, list := range right {
		says(t, head+"run "+item+"\n", with(0), steps(list...))
		if len(list) < 100 {
			says(t, head+"run 3 "+item+" 5\n", with(0), steps(slices.Concat([]int{3}, list, []int{5})...))
		}
	}
	for _, item := range []string{"", "100", "101", "999", "256", "4294967296", "9223372036854775807", "9223372036854775808", "-1", "-0", "+1", "00", "01", "099", "x", "0x1",
		"0*", "*", "*2", "**", "0**2", "0*2*", "0*2*3", "*0*2", "0*0", "0*1", "99*1", "0*02", "0*2x", "0*-2", "0*+2", "0*20001", "0*20002", "0*65538", "0*4294967298", "0*9223372036854775807", "0*9223372036854775808", "0*18446744073709551618",
		"100*2", "00*2", "01*2", "-1*2", "x*2", "0x2", "0,2", "2*0*2", "0*2,1", "0* 2", "0 *2", "0 * 2", "\xff", "0*\xff", "0\xff", "\u0660", "0\u00d72"} {
		for _, line := range []string{item + "\n", item + " 0\n", "0 " + item + "\n", "0*2 " + item + " 1*3\n", "0*20000 " + item + "\n", item + " 0*20000 0*20000\n"} {
			behind(t, head, "run "+line, api.ErrText, 0)
			behind(t, head+"run 0*20000\n", "run "+line, api.ErrText, 0)
		}
	}
}

// P24.1: all short items, by the chapter's words.
func TestShortItems(t *testing.T) {
	lists := []string{""}
	right := 0
	for range 5 {
		var next []string
		for _, text := range lists {
			for _, c := range []string{"0", "1", "9", "*", " ", "-"} {
				next = append(next, text+c)
			}
		}
		for _, text := range next {
			if holds(t, head+"run "+text+"\n") == api.OK {
				right++
			}
		}
		lists = next
	}
	if right < 100 {
		t.Errorf("just %d are right", right)
	}
}

// P24.1: MaxSteps steps in one line or in many, and one more.
func TestMostSteps(t *testing.T) {
	for _, x := range []struct {
		ahead, last string
	}{
		{"", "run 0*20000\n"}, {"run 0*19999\n", "run 1\n"}, {"run 0\n", "run 1*19999\n"}, {"run 0*10000 1*9998\ncells\n", "run 2*2\n"}, {"run 5\ncells\nrun 6\nwords\nrun 7*19990 7\n", "run 8*7\n"},
		{strings.Repeat("run 0*100\n", 199), "run 5*50 6*50\n"}, {"", "run 0*20000\n"}, {"run" + strings.Repeat(" 1", 10000) + "\n", "run 2*10000\n"},
		{"run" + strings.Repeat(" 1 2", 10000-1) + "\n", "run 0 1\n"}, {strings.Repeat("run 0*20\n", 999), "run 3*20\n"},
	} {
		if holds(t, head+x.ahead+x.last) != api.OK {
			t.Errorf("%q is refused", short(x.ahead+x.last))
		}
		for _, more := range []string{"run 0\n", "run 99\n", "run 0*2\n", "run 0*20000\n", "run 0\nx\n", "run 0*20000 0*20000\n"} {
			behind(t, head+x.ahead+x.last, more, api.ErrFull, 0)
			behind(t, head+x.ahead+x.last+"cells\n", more, api.ErrFull, 0)
		}
		behind(t, head+x.ahead, strings.Replace(x.last, "\n", " 0\n", 1), api.ErrFull, 0)
		behind(t, head+x.ahead, strings.Replace(x.last, "\n", " 0*20000\nx\n", 1), api.ErrFull, 0)
		behind(t, head+x.ahead+x.last, "run x\n", api.ErrText, 0)
		behind(t, head+x.ahead+x.last, "thread\n", api.ErrText, 0)
		behind(t, head+x.ahead+x.last, "run\n", api.ErrText, 0)
	}
	// A line that asks for as many as its bytes can.
	behind(t, head, "run"+strings.Repeat(" 9*20000", 8000)+"\n", api.ErrFull, 0)
}

// P24.1: what is wrong with a program is what chapter 14 tells, at its place in the script, once its end was read.
func TestWrongPrograms(t *testing.T) {
	for _, x := range []struct {
		text  string
		why   api.Errno
		place int
	}{
		{"nop\n", api.ErrText, 0}, {"push8 7\nnop\ncommit\n", api.ErrText, 8}, {"push8\n", api.ErrText, 5}, {"commit\npush8 # 5\n", api.ErrText, 12}, {"  push8 x\n", api.ErrText, 8},
		{"push8 300\n", api.ErrRange, 6}, {"a:\na:\n", api.ErrName, 3}, {"commit\njump b\n", api.ErrName, 12}, {"jump b\nnop\n", api.ErrText, 7}, {"call b\na: jumpz c\n", api.ErrName, 5},
		{"dup 1\n", api.ErrText, 4}, {"end: end\n", api.ErrText, 5}, {" end\n", api.ErrText, 1}, {"end \n", api.ErrText, 0}, {"end#\n", api.ErrText, 0}, {"\tend\n", api.ErrText, 1}, {"End\n", api.ErrText, 0}, {"end\r\n", api.ErrText, 0}, {"endend\n", api.ErrText, 0},
		{"program\n", api.ErrText, 0}, {"\n\nthread\n", api.ErrText, 2}, {"cells\n", api.ErrText, 0}, {head, api.ErrText, 0}, {"# \u00e4\xff\n \xff\n", api.ErrText, 7},
		{strings.Repeat("dup\n", 513), api.ErrFull, 4 * 512}, {strings.Repeat("push64 1\n", 57), api.ErrFull, 9 * 56},
	} {
		for _, ahead := range []string{"", "region queue 1\nregion dict 2\n", program, strings.Repeat(program, 15), "program\n" + strings.Repeat("\n", 200) + "end\n"} {
			begin := len(head + ahead + "program\n")
			for _, rest := range []string{"end\n", "end\nx\n", "end\n" + program, "end\nthread\njob 99\n", "end\nend\n", "end\n\xff"} {
				wrong(t, head+ahead+"program\n"+x.text+rest, x.why, begin+x.place)
				wrong(t, "config 0 0 0 0 0 single\n"+ahead+"program\n"+x.text+rest, x.why, begin-1+x.place)
			}
			// As long as no end was read, that is what lacks.
			for _, rest := range []string{"", "e", "end", "end ", "end \n", "commit\n", " end\n"} {
				text := head + ahead + "program\n" + x.text + rest
				wrong(t, text, api.ErrText, len(text))
			}
		}
	}
	// A fault ahead of the program comes first.
	behind(t, head, "x\nprogram\nnop\nend\n", api.ErrText, 0)
	behind(t, head+"thread\n", "program\nnop\nend\n", api.ErrText, 0)
	behind(t, head, "program\nnop\nend\nprogram\n", api.ErrText, 8)
	// The longest program there may be.
	s := with(1)
	s.Programs[0] = strings.Repeat("\x04", 512)
	tells(t, head+"program\n"+strings.Repeat("dup\n", 512)+"end\n", s)
}

// P24.1: a configuration that may not be is told where there is no other fault, wherever that would be.
func TestWrongConfigs(t *testing.T) {
	seed := strewn(241)
	refused := 0
	for range 1000 {
		c := seed.anyConfig()
		s := api.Setup{Config: c}
		text := printed(t, s, nil)
		if place.Check(c) == api.OK {
			says(t, text+"ring\n", s, api.Line{Kind: api.LineRing})
			continue
		}
		refused++
		wrong(t, text, api.ErrConfig, 0)
		wrong(t, text+program+"thread\njob 0\nrun 0*20000\ncells\n", api.ErrConfig, 0)
		for _, rest := range []string{"x\n", "cells", "config 1 1 1 1 1 single\n", "job 0\n", "end\n"} {
			behind(t, text, rest, api.ErrText, 0)
			behind(t, text+program, rest, api.ErrText, 0)
		}
		behind(t, text, "program\n", api.ErrText, 8)
		behind(t, text, "program\npush8 1\npush8 999\nend\n", api.ErrRange, 22)
		behind(t, text+"thread\n", "job 0\n", api.ErrName, 0)
		behind(t, text+"run 0*20000\n", "run 0\n", api.ErrFull, 0)
	}
	if refused < 300 || refused > 800 {
		t.Errorf("%d of 1000 are refused", refused)
	}
	// Many regions, and then a fault behind them.
	many := strings.Repeat("region queue 0\n", 9)
	wrong(t, head+many, api.ErrConfig, 0)
	wrong(t, head+strings.Repeat(many, 400), api.ErrConfig, 0)
	behind(t, head+many, "region queue\n", api.ErrText, 0)
}
