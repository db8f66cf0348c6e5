package dict

// Which cell of the slot where it stands a search told last.
const (
	askedNothing = iota
	askedState
	askedKey
)

// search is a key that is looked up, cell by cell: it knows nothing of the cells but what it is handed.
type search struct {
	key   int64
	most  int
	left  int // how many slots of the way are still to be looked at, the one where it stands among them
	slot  int // where it stands
	asked int // which cell of that slot it told last
	free  int // the first slot on the way that was not there
	found int // the slot of the key
}

// searchFor is a search that has read nothing.
func searchFor(key int64, most int) search {
	return search{key: key, most: most, left: most, slot: firstSlot(key, most), free: noSlot, found: noSlot}
}

// firstSlot is where the way of a key begins.
func firstSlot(key int64, most int) int {
	upper := uint64(key) * spread >> halfWord
	return int(upper * uint64(most) >> halfWord)
}

// next goes on by what was read of the cell that it told last, and tells the next one; false: its way is at its end.
func (s *search) next(v int64) (cell int, more bool) {
way:
	for s.left > 0 {
		switch s.asked {
		case askedNothing:
			s.asked = askedState
			return cellOf(s.slot, slotState), true
		case askedState:
			switch v {
			case stateThere:
				s.asked = askedKey
				return cellOf(s.slot, slotKey), true
			case stateEmpty:
				s.takeFree()
				break way
			}
			s.takeFree()
		case askedKey:
			if v == s.key {
				s.found = s.slot
				break way
			}
		}
		s.walk()
	}
	s.left = 0
	return 0, false
}

// takeFree keeps the slot where it stands as the free one, if none was free ahead of it.
func (s *search) takeFree() {
	if s.free == noSlot {
		s.free = s.slot
	}
}

// walk goes on to the next slot of the way.
func (s *search) walk() {
	s.slot++
	if s.slot == s.most {
		s.slot = 0
	}
	s.asked = askedNothing
	s.left--
}
