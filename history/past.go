package history

import "carousel/api"

// past is a history, as far as it was gone through.
type past struct {
	at        int   // the moment of its last event
	txs       []*tx // by their numbers
	published []*tx // by their stamps
	complete  int64 // how many of these are
}

// read goes through a list of events, which must be a history.
func read(h []api.Event) (*past, error) {
	p := &past{}
	for at, e := range h {
		if !p.take(e) {
			return nil, fault{at, errEvent}
		}
	}
	return p, nil
}

// readOrdered goes through a history, and answers its transactions in an order, which must have each just once.
func readOrdered(h []api.Event, order []int) ([]*tx, error) {
	p, err := read(h)
	if err != nil {
		return nil, err
	}
	if len(order) != len(p.txs) {
		return nil, errArg
	}
	had := make([]bool, len(p.txs))
	var list []*tx
	for _, number := range order {
		if number < 0 || number >= len(had) || had[number] {
			return nil, errArg
		}
		had[number] = true
		list = append(list, p.txs[number])
	}
	return list, nil
}

// readFor goes through a history of which so many cells are asked for.
func readFor(h []api.Event, cells int) (*past, error) {
	p, err := read(h)
	if err != nil {
		return nil, err
	}
	if cells < 0 || cells > api.MaxCells {
		return nil, errArg
	}
	return p, nil
}

// take: may this event come? If so, it is gone through.
func (p *past) take(e api.Event) bool {
	if e.At < p.at {
		return false
	}
	p.at = e.At
	if e.Kind == api.EvOpened {
		return p.open(e)
	}
	if e.Tx < 0 || e.Tx >= len(p.txs) {
		return false
	}
	x := p.txs[e.Tx]
	if e.Thread != x.Thread {
		return false
	}
	switch e.Kind {
	case api.EvBegun:
		return x.begin(e)
	case api.EvRead, api.EvWrote:
		return x.touch(e)
	case api.EvPublished:
		return p.publish(x, e)
	case api.EvComplete:
		return p.finish(x, e)
	case api.EvEnded:
		return x.end(e)
	}
	return false
}

// open opens the next transaction.
func (p *past) open(e api.Event) bool {
	if e.Tx != len(p.txs) {
		return false
	}
	p.txs = append(p.txs, &tx{Tx: api.Tx{
		Thread: e.Thread, Begun: e.At, Ended: -1, Seen: int64(len(p.published)),
	}})
	return true
}

// publish: a transaction publishes the next entry.
func (p *past) publish(x *tx, e api.Event) bool {
	if x.stage != begun || e.Stamp != int64(len(p.published))+1 {
		return false
	}
	x.stage = published
	x.Ended, x.Stamp, x.Seen = e.At, e.Stamp, e.Stamp-1
	p.published = append(p.published, x)
	return true
}

// finish: the next entry is complete.
func (p *past) finish(x *tx, e api.Event) bool {
	if x.stage != published || e.Stamp != x.Stamp || e.Stamp != p.complete+1 {
		return false
	}
	x.stage = over
	p.complete++
	return true
}
