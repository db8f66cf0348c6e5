package plain

import "carousel/api"

// collection is what a region holds.
type collection struct {
	kind, most int
	values     []int64    // of a counter its numbers; of a queue the first one first; of a chain the keys, rising
	pairs      []api.Pair // of a dict, by rising keys
}

// knownCall is a call that a kind has, how many arguments it has, and what it does: its answer and code.
type knownCall struct {
	kind, call, args int
	does             func(c *collection, args []int64) (int64, int)
}

// knownCalls are those of all kinds.
func knownCalls() []knownCall {
	return []knownCall{
		{api.KindCounter, api.CallAdd, 2, (*collection).addToNumber},
		{api.KindCounter, api.CallGet, 1, (*collection).getNumber},
		{api.KindQueue, api.CallPut, 1, (*collection).putLast},
		{api.KindQueue, api.CallGet, 0, (*collection).getFirst},
		{api.KindQueue, api.CallLen, 0, (*collection).count},
		{api.KindDict, api.CallGet, 1, (*collection).getValue},
		{api.KindDict, api.CallPut, 2, (*collection).putValue},
		{api.KindDict, api.CallDel, 1, (*collection).delPair},
		{api.KindDict, api.CallLen, 0, (*collection).count},
		{api.KindChain, api.CallAdd, 1, (*collection).addKey},
		{api.KindChain, api.CallDel, 1, (*collection).delKey},
		{api.KindChain, api.CallHas, 1, (*collection).hasKey},
		{api.KindChain, api.CallLeast, 0, (*collection).leastKey},
		{api.KindChain, api.CallNext, 1, (*collection).nextKey},
		{api.KindChain, api.CallLen, 0, (*collection).count},
	}
}

// do does a call: its answer and code; ErrArg, if its kind has none such with so many arguments.
func (c *collection) do(call int, args []int64) (int64, int, api.Errno) {
	for _, known := range knownCalls() {
		if known.kind == c.kind && known.call == call && known.args == len(args) {
			answer, code := known.does(c, args)
			return answer, code, api.OK
		}
	}
	return 0, 0, api.ErrArg
}

// addToNumber makes a counter's number greater.
func (c *collection) addToNumber(args []int64) (int64, int) {
	if !c.hasNumber(args[0]) {
		return 0, api.CodeNone
	}
	c.values[args[0]] += args[1]
	return c.values[args[0]], api.CodeOK
}

// getNumber is a counter's number.
func (c *collection) getNumber(args []int64) (int64, int) {
	if !c.hasNumber(args[0]) {
		return 0, api.CodeNone
	}
	return c.values[args[0]], api.CodeOK
}

// hasNumber: has a counter that number?
func (c *collection) hasNumber(i int64) bool {
	return i >= 0 && i < int64(len(c.values))
}

// putLast puts a value behind the others of a queue.
func (c *collection) putLast(args []int64) (int64, int) {
	if len(c.values) == c.most {
		return 0, api.CodeFull
	}
	c.values = append(c.values, args[0])
	return 0, api.CodeOK
}

// getFirst takes the first value out of a queue.
func (c *collection) getFirst([]int64) (int64, int) {
	if len(c.values) == 0 {
		return 0, api.CodeNone
	}
	first := c.values[0]
	c.values = without(c.values, 0)
	return first, api.CodeOK
}

// count is how many a queue, a dict or a chain holds: of its two lists one is always empty.
func (c *collection) count([]int64) (int64, int) {
	return int64(len(c.values) + len(c.pairs)), api.CodeOK
}

// getValue is the value of a dict's key.
func (c *collection) getValue(args []int64) (int64, int) {
	i, there := find(c.pairs, keyOfPair, args[0])
	if !there {
		return 0, api.CodeNone
	}
	return c.pairs[i].Value, api.CodeOK
}

// putValue gives a dict's key a value.
func (c *collection) putValue(args []int64) (int64, int) {
	i, there := find(c.pairs, keyOfPair, args[0])
	switch {
	case there:
		c.pairs[i].Value = args[1]
	case len(c.pairs) == c.most:
		return 0, api.CodeFull
	default:
		c.pairs = with(c.pairs, i, api.Pair{Key: args[0], Value: args[1]})
	}
	return 0, api.CodeOK
}

// delPair takes a key out of a dict.
func (c *collection) delPair(args []int64) (int64, int) {
	i, there := find(c.pairs, keyOfPair, args[0])
	if !there {
		return 0, api.CodeNone
	}
	c.pairs = without(c.pairs, i)
	return 0, api.CodeOK
}

// addKey puts a key into a chain.
func (c *collection) addKey(args []int64) (int64, int) {
	i, there := find(c.values, keyItself, args[0])
	switch {
	case there:
		return 0, api.CodeThere
	case len(c.values) == c.most:
		return 0, api.CodeFull
	}
	c.values = with(c.values, i, args[0])
	return 0, api.CodeOK
}

// delKey takes a key out of a chain.
func (c *collection) delKey(args []int64) (int64, int) {
	i, there := find(c.values, keyItself, args[0])
	if !there {
		return 0, api.CodeNone
	}
	c.values = without(c.values, i)
	return 0, api.CodeOK
}

// hasKey: is a key in a chain?
func (c *collection) hasKey(args []int64) (int64, int) {
	if _, there := find(c.values, keyItself, args[0]); there {
		return 1, api.CodeOK
	}
	return 0, api.CodeOK
}

// leastKey is a chain's first key.
func (c *collection) leastKey([]int64) (int64, int) {
	return c.keyAt(0)
}

// nextKey is a chain's least key above a key.
func (c *collection) nextKey(args []int64) (int64, int) {
	i, there := find(c.values, keyItself, args[0])
	if there {
		// By its place, not by the key and 1: above the greatest number that would go round.
		i++
	}
	return c.keyAt(i)
}

// keyAt is the key at a place of a chain, from 0 to how many there are: there is none at the last.
func (c *collection) keyAt(i int) (int64, int) {
	if i == len(c.values) {
		return 0, api.CodeNone
	}
	return c.values[i], api.CodeOK
}
