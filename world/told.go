package world

import (
	"strconv"

	"carousel/api"
	"carousel/history"
	"carousel/plain"
	"carousel/sig"
)

// sentence is a line of the transcript, word by word.
type sentence []string

// cellsTold is what is told of the cells, as they are and as they will be.
func cellsTold(cells, finished []int64) []sentence {
	return []sentence{
		append(sentence{"cells"}, decimals(cells)...),
		append(sentence{"finished"}, decimals(finished)...),
	}
}

// shapesTold is what is told of the collections that lie in cells.
func shapesTold(c api.Config, cells []int64) []sentence {
	state, why := plain.Of(c, cells)
	if why != api.OK {
		return []sentence{{"shapes", errorWord(why)}}
	}
	var list []sentence
	for _, shape := range state.Shapes() {
		list = append(list, shapeTold(shape))
	}
	return list
}

// shapeTold is what is told of one collection: of its two lists one is always empty.
func shapeTold(s api.Shape) sentence {
	told := append(sentence{kindWord(s.Kind)}, decimals(s.Values)...)
	for _, pair := range s.Pairs {
		told = append(told, decimal(pair.Key)+":"+decimal(pair.Value))
	}
	return told
}

// ringTold is what is told of the ring's entries.
func ringTold(entries []api.Entry) []sentence {
	var list []sentence
	for _, e := range entries {
		list = append(list, sentence{"entry", decimal(e.Stamp), markWord(e.Mark), sig.Text(e.Sig)})
	}
	return append(list, sentence{"ring", decimal(len(entries))})
}

// threadTold is what is told of a thread.
func threadTold(number int, t api.Thread) sentence {
	return sentence{
		"thread", decimal(number), decimal(t.Job), decimal(t.Try),
		either(t.Published, "published", "open"), decimal(t.Steps), decimal(t.Waits),
	}
}

// outcomeTold is what is told of a job that has ended.
func outcomeTold(job int, o api.Outcome) sentence {
	end := "ok"
	if o.Err != api.OK {
		end = errorWord(o.Err)
	}
	return append(sentence{"job", decimal(job), decimal(o.Tries), end}, decimals(o.Tells)...)
}

// orderTold is what is told of a history. What chapter 23 refuses is in no order, neither timely nor legal.
func orderTold(h []api.Event) []sentence {
	order, _ := history.Order(h)
	timely, _ := history.Timely(h, order)
	legal, _ := history.Legal(h, order)
	return []sentence{
		append(sentence{"order"}, decimals(order)...),
		{"timely", either(timely, "yes", "no"), "legal", either(legal, "yes", "no")},
	}
}

// wordsTold is what is told of the shared words that were accessed.
func wordsTold(touched []api.Touch) []sentence {
	var list []sentence
	accesses := 0
	for _, t := range touched {
		list = append(list, append(addrWords(t.Addr), decimal(t.Loads), decimal(t.Stores), decimal(t.Swaps)))
		accesses += t.Loads + t.Stores + t.Swaps
	}
	return append(list, sentence{"words", decimal(accesses)})
}

// addrWords are those of a shared word's address.
func addrWords(a api.Addr) sentence {
	switch a.Kind {
	case api.AddrHead:
		return sentence{"head", decimal(a.I)}
	case api.AddrSig:
		return sentence{"sig", decimal(a.I), decimal(a.J)}
	case api.AddrCell:
		return sentence{"cell", decimal(a.I)}
	}
	return sentence{"newest"}
}

// answerWord is that of what came of a step.
func answerWord(a api.Answer) string {
	switch a.Kind {
	case api.AnsWait:
		return "wait"
	case api.AnsMoved:
		return "moved"
	case api.AnsDone:
		return "done"
	case api.AnsFailed:
		return errorWord(a.Err)
	}
	return "none"
}

// kindWord is that of a collection's kind.
func kindWord(kind int) string {
	switch kind {
	case api.KindCounter:
		return "counter"
	case api.KindQueue:
		return "queue"
	case api.KindDict:
		return "dict"
	}
	return "chain"
}

// markWord is that of an entry's mark.
func markWord(mark int) string {
	switch mark {
	case api.MarkWriting:
		return "writing"
	case api.MarkDone:
		return "done"
	}
	return "raw"
}

// errorWord is that of an error.
func errorWord(why api.Errno) string {
	return "error" + decimal(why)
}

// either is one of two words.
func either(is bool, yes, no string) string {
	if is {
		return yes
	}
	return no
}

// decimal is a number as a word.
func decimal[N ~int | ~int64](n N) string {
	return strconv.FormatInt(int64(n), 10)
}

// decimals are numbers as words.
func decimals[N ~int | ~int64](list []N) []string {
	var words []string
	for _, n := range list {
		words = append(words, decimal(n))
	}
	return words
}
