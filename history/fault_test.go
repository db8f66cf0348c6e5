package history

import (
	"errors"
	"testing"

	"carousel/api"
)

// The chapter's section Ways: what is wrong is found by errors.As and asked by errors.Is, however it is wrapped.
func TestFault(t *testing.T) {
	_, err := read([]api.Event{{Kind: api.EvOpened}, {Kind: api.EvBegun}, {}})
	for _, e := range []error{err, errors.Join(errArg, err)} {
		var f fault
		if !errors.As(e, &f) || f.at != 2 || !errors.Is(e, errEvent) || errnoOf(e) != api.ErrHistory || placeOf(e) != 2 {
			t.Errorf("%v: error %d at %d", e, errnoOf(e), placeOf(e))
		}
	}
	if text := err.Error(); text != "2: an event that may not come" {
		t.Errorf("%q", text)
	}
	if errnoOf(errArg) != api.ErrArg || placeOf(errArg) != 0 {
		t.Errorf("%v: error %d at %d", errArg, errnoOf(errArg), placeOf(errArg))
	}
}
