package chain

import "carousel/api"

// turn is a want, and what comes behind it: a closure that is handed what was read. Behind the end there is none.
//
// A closure holds what was learned ahead of it, and none changes what another one holds: so two calls under way share nothing that moves.
type turn struct {
	want api.Want
	then func(v int64) turn
}

// site is where a chain lies, and how many nodes it has.
type site struct {
	base, most int
}

// way is where one came to on the way to a key.
type way struct {
	cell    int   // of the link at hand
	link    int64 // what was read there
	stopped bool  // whether the way ended at a node, by its key
	node    int   // that node
	key     int64 // its key
}

// at: is one at that key?
func (w way) at(k int64) bool {
	return w.stopped && w.key == k
}

// firstTurn is what a call begins with.
func (s site) firstTurn(call int, args []int64) turn {
	switch call {
	case api.CallAdd:
		return s.add(args[0])
	case api.CallDel:
		return s.del(args[0])
	case api.CallHas:
		return s.has(args[0])
	case api.CallNext:
		return s.next(args[0])
	case api.CallLeast:
		return s.read(cellHead, s.keyBehind)
	}
	return s.count(cellHead, 0)
}

// add puts a key where the way to it ended.
func (s site) add(k int64) turn {
	return s.goTo(k, func(w way) turn {
		if w.at(k) {
			return refused(api.CodeThere)
		}
		return s.take(func(node int) turn {
			return s.write(keyOf(node), k, func() turn {
				return s.write(nextOf(node), w.link, func() turn {
					return s.write(w.cell, int64(node), through)
				})
			})
		})
	})
}

// del takes a key out, and puts its node ahead of the free ones.
func (s site) del(k int64) turn {
	return s.goTo(k, func(w way) turn {
		if !w.at(k) {
			return refused(api.CodeNone)
		}
		return s.read(nextOf(w.node), func(behind int64) turn {
			return s.write(w.cell, behind, func() turn {
				return s.giveBack(w.node)
			})
		})
	})
}

// has asks whether a key is there.
func (s site) has(k int64) turn {
	return s.goTo(k, func(w way) turn {
		if w.at(k) {
			return done(1)
		}
		return done(0)
	})
}

// next asks for the key behind k, which itself need not be there.
func (s site) next(k int64) turn {
	return s.goTo(k, func(w way) turn {
		switch {
		case !w.stopped:
			return refused(api.CodeNone)
		case w.at(k):
			return s.read(nextOf(w.node), s.keyBehind)
		}
		return done(w.key)
	})
}

// keyBehind ends with the key of the node that a link leads to.
func (s site) keyBehind(link int64) turn {
	node, leads := leadsTo(link, s.most)
	if !leads {
		return refused(api.CodeNone)
	}
	return s.read(keyOf(node), done)
}

// count counts the nodes from the link in a cell on, when so many were come to.
func (s site) count(cell, come int) turn {
	return s.read(cell, func(link int64) turn {
		node, leads := leadsTo(link, s.most)
		if !leads || come == s.most {
			return done(int64(come))
		}
		return s.count(nextOf(node), come+1)
	})
}

// goTo goes to a key; what comes then is handed where the way ended.
func (s site) goTo(k int64, then func(w way) turn) turn {
	return s.goOn(cellHead, 0, k, then)
}

// goOn goes on to a key from the link in a cell on, when so many nodes were come to: links that lead round would lead it on for ever.
func (s site) goOn(cell, come int, k int64, then func(w way) turn) turn {
	return s.read(cell, func(link int64) turn {
		node, leads := leadsTo(link, s.most)
		if !leads || come == s.most {
			return then(way{cell: cell, link: link})
		}
		return s.read(keyOf(node), func(key int64) turn {
			if key >= k {
				return then(way{cell: cell, link: link, stopped: true, node: node, key: key})
			}
			return s.goOn(nextOf(node), come+1, k, then)
		})
	})
}

// take takes a node, if there is one: the first of the free ones, or else one that was never used.
func (s site) take(then func(node int) turn) turn {
	return s.read(cellFree, func(free int64) turn {
		node, leads := leadsTo(free, s.most)
		if !leads {
			return s.takeUnused(then)
		}
		return s.read(nextOf(node), func(behind int64) turn {
			return s.write(cellFree, behind, func() turn { return then(node) })
		})
	})
}

// takeUnused takes the first node that was never used.
func (s site) takeUnused(then func(node int) turn) turn {
	return s.read(cellUsed, func(used int64) turn {
		if used < 0 || used >= int64(s.most) {
			return refused(api.CodeFull)
		}
		node := int(used) + 1
		return s.write(cellUsed, int64(node), func() turn { return then(node) })
	})
}

// giveBack puts a node ahead of the free ones, and ends.
func (s site) giveBack(node int) turn {
	return s.read(cellFree, func(free int64) turn {
		return s.write(nextOf(node), free, func() turn {
			return s.write(cellFree, int64(node), through)
		})
	})
}

// read wants a cell of the chain.
func (s site) read(cell int, then func(v int64) turn) turn {
	return turn{api.Want{Kind: api.WantRead, Cell: s.base + cell}, then}
}

// write wants a cell of the chain to become a value; what comes then is handed nothing, for nothing was read.
func (s site) write(cell int, value int64, then func() turn) turn {
	want := api.Want{Kind: api.WantWrite, Cell: s.base + cell, Value: value}
	return turn{want, func(int64) turn { return then() }}
}

// done is the end of a call that came to a value.
func done(value int64) turn {
	return turn{want: api.Want{Kind: api.WantDone, Value: value, Code: api.CodeOK}}
}

// through is the end of a call that has done what it is for.
func through() turn {
	return done(0)
}

// refused is the end of a call that came to nothing.
func refused(code int) turn {
	return turn{want: api.Want{Kind: api.WantDone, Code: code}}
}
