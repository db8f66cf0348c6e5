package history

import (
	"errors"
	"strconv"

	"carousel/api"
)

// What may be wrong.
var (
	errEvent = errors.New("an event that may not come")
	errArg   = errors.New("an argument that may not be")
)

// fault is what is wrong with a list, and at which place of it.
type fault struct {
	at  int
	why error
}

// Error tells it as text.
func (f fault) Error() string {
	return strconv.Itoa(f.at) + ": " + f.why.Error()
}

// Unwrap is what is wrong, wherever it is.
func (f fault) Unwrap() error { return f.why }

// errnoOf is the number by which a face tells what is wrong.
func errnoOf(err error) api.Errno {
	if errors.Is(err, errEvent) {
		return api.ErrHistory
	}
	return api.ErrArg
}

// placeOf is where it is wrong; 0, if it has no place.
func placeOf(err error) int {
	var f fault
	if errors.As(err, &f) {
		return f.at
	}
	return 0
}
