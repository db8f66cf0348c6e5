package plain

import "carousel/api"

// find is where in a list whose keys rise a key stands, or would stand; and whether it is there.
func find[E any](rising []E, keyOf func(E) int64, key int64) (int, bool) {
	low, high := 0, len(rising)
	for low < high {
		middle := (low + high) / 2
		if keyOf(rising[middle]) < key {
			low = middle + 1
		} else {
			high = middle
		}
	}
	return low, low < len(rising) && keyOf(rising[low]) == key
}

// keyItself is the key of what is nothing but a key.
func keyItself(key int64) int64 {
	return key
}

// keyOfPair is the key of a dict's pair.
func keyOfPair(p api.Pair) int64 {
	return p.Key
}

// with is a list of which one more stands at a place; the list itself is given up for it.
func with[E any](list []E, i int, one E) []E {
	list = append(list, one)
	copy(list[i+1:], list[i:])
	list[i] = one
	return list
}

// without is a list without the one at a place; the list itself is given up for it.
func without[E any](list []E, i int) []E {
	last := len(list) - 1
	copy(list[i:], list[i+1:])
	// What was taken out isn't kept in the room that is empty again.
	clear(list[last:])
	return list[:last]
}

// copied is a list of the same, in memory of its own and without spare room.
func copied[E any](list []E) []E {
	if len(list) == 0 {
		return nil
	}
	other := make([]E, len(list))
	copy(other, list)
	return other
}
