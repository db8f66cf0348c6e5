package script

import (
	"slices"
	"strconv"
	"strings"

	"carousel/api"
)

// The words with which lines begin.
const (
	wordConfig  = "config"
	wordRegion  = "region"
	wordProgram = "program"
	wordEnd     = "end"
	wordThread  = "thread"
	wordJob     = "job"
	wordRun     = "run"
	wordCells   = "cells"
	wordShapes  = "shapes"
	wordRing    = "ring"
	wordState   = "state"
	wordOrder   = "order"
	wordWords   = "words"
)

// What a configuration's line ends with.
const (
	wordSingle = "single"
	wordMulti  = "multi"
)

// maxThread is the greatest thread of which a line may ask for a step, whether there is such a one or not.
const maxThread = 99

// kinds are the words of regions, in the order of the kinds' numbers, which have no gap.
var kinds = [...]string{"counter", "queue", "dict", "chain"}

// kindOf is the kind of regions that a word says; false: none.
func kindOf(word string) (int, bool) {
	at := slices.Index(kinds[:], word)
	return api.KindCounter + at, at >= 0
}

// kindWord is the word of a kind of regions.
func kindWord(kind int) string {
	return kinds[kind-api.KindCounter]
}

// lookWord is the word of a kind of lines that look at the world; empty: there is no such kind.
func lookWord(kind int) string {
	switch kind {
	case api.LineCells:
		return wordCells
	case api.LineShapes:
		return wordShapes
	case api.LineRing:
		return wordRing
	case api.LineState:
		return wordState
	case api.LineOrder:
		return wordOrder
	case api.LineWords:
		return wordWords
	}
	return ""
}

// pieces are what a rune of one byte parts in a text; an empty one, too.
func pieces(text string, by rune) []string {
	var all []string
	from := 0
	for at, c := range text {
		if c == by {
			all = append(all, text[from:at])
			from = at + 1
		}
	}
	return append(all, text[from:])
}

// areDigits: is all of a word digits, without a 0 ahead?
func areDigits(word string) bool {
	for at, c := range word {
		if c < '0' || c > '9' || at > 0 && word[0] == '0' {
			return false
		}
	}
	return true
}

// integer is the one that a word says; false: none.
func integer(word string) (int64, bool) {
	digits, below := strings.CutPrefix(word, "-")
	if !areDigits(digits) || below && digits == "0" {
		return 0, false
	}
	// The library refuses the rest: no digits, and too many.
	n, err := strconv.ParseInt(word, 10, 64)
	return n, err == nil
}

// number is the one that a word says; false: none.
func number(word string) (int64, bool) {
	n, is := integer(word)
	return n, is && n >= 0
}

// each is what all words say, read one by one; false: one of them says nothing.
func each(words []string, read func(word string) (int64, bool)) ([]int64, bool) {
	var all []int64
	for _, word := range words {
		n, is := read(word)
		if !is {
			return nil, false
		}
		all = append(all, n)
	}
	return all, true
}

// item is some steps of one thread.
type item struct {
	thread, steps int
}

// itemOf is the one that a word says; false: none.
func itemOf(word string) (item, bool) {
	parts := pieces(word, '*')
	n, are := each(parts, number)
	if !are || len(n) > 2 || n[0] > maxThread {
		return item{}, false
	}
	if len(n) == 1 {
		return item{int(n[0]), 1}, true
	}
	// One step is told without a star.
	return item{int(n[0]), int(n[1])}, n[1] >= 2 && n[1] <= api.MaxSteps
}

// itemWord is an item's word.
func itemWord(i item) string {
	word := strconv.Itoa(i.thread)
	if i.steps > 1 {
		word += "*" + strconv.Itoa(i.steps)
	}
	return word
}
