package prog

import (
	"carousel/api"
	"carousel/chain"
	"carousel/counter"
	"carousel/dict"
	"carousel/place"
	"carousel/queue"
)

// mostArguments: no call of a collection has more.
const mostArguments = 2

// asking is a collection's call under way, of whichever kind.
type asking interface {
	Next(v int64) api.Want
}

// region is a collection, and where it lies.
type region struct {
	kind, base, most int
}

// regionsOf are those of a configuration that may be.
func regionsOf(c api.Config) []region {
	var regions []region
	for i, r := range c.Regions {
		base, _ := place.Base(c, i)
		regions = append(regions, region{kind: r.Kind, base: base, most: r.Cap})
	}
	return regions
}

// ask begins a call.
func (r region) ask(call int, args ...int64) (asking, api.Errno) {
	switch r.kind {
	case api.KindCounter:
		return counter.New(r.base, r.most, call, args...)
	case api.KindQueue:
		return queue.New(r.base, r.most, call, args...)
	case api.KindDict:
		return dict.New(r.base, r.most, call, args...)
	}
	return chain.New(r.base, r.most, call, args...)
}

// arguments is how many a call has; false: the kind hasn't that call. The kind alone knows: it refuses any other number.
func (r region) arguments(call int) (int, bool) {
	for count := range mostArguments + 1 {
		if _, why := r.ask(call, make([]int64, count)...); why == api.OK {
			return count, true
		}
	}
	return 0, false
}
