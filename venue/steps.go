package venue

import (
	"slices"

	"snaffle/api"
	"snaffle/order"
)

// full: is there no room for another note?
func full(v api.Venue) bool { return len(v.Notes) == api.MaxNotes }

// copied venue, in new memory.
func copied(v api.Venue) api.Venue {
	return api.Venue{Inbox: slices.Clone(v.Inbox), Orders: slices.Clone(v.Orders), Notes: slices.Clone(v.Notes)}
}

// met: what a message makes of a venue that is in memory of its own, and has room for it.
func met(v api.Venue, m api.Msg, accepts bool) api.Venue {
	at := Find(v, m.Order)
	if m.Kind == api.New {
		if at == api.None {
			return begun(v, m, accepts)
		}
		return v
	}
	if at == api.None || v.Orders[at].Phase != api.Live {
		return v
	}
	switch {
	case m.Kind == api.Replace && m.Version > v.Orders[at].Version:
		return replaced(v, at, m, accepts)
	case m.Kind == api.Cancel && accepts:
		return told(v, at, api.Note{What: api.Out})
	}
	return v
}

// begun: it knows an order from now on.
func begun(v api.Venue, m api.Msg, accepts bool) api.Venue {
	// Of a message that is right the record is, too: there is an order.
	o, _ := order.Begin(api.Rec{
		Kind: api.New, Order: m.Order, Account: m.Account, Symbol: m.Symbol, Side: m.Side, Qty: m.Qty, Price: m.Price,
	})
	at := 0
	for at < len(v.Orders) && v.Orders[at].Id < o.Id {
		at++
	}
	v.Orders = slices.Insert(v.Orders, at, o)
	if accepts {
		return told(v, at, api.Note{What: api.Ack})
	}
	return told(v, at, api.Note{What: api.Reject})
}

// replaced: an order gets another quantity and price, or doesn't; the same version won't be asked for again.
func replaced(v api.Venue, at int, m api.Msg, accepts bool) api.Venue {
	o := &v.Orders[at]
	o.Version, o.NewQty, o.NewPrice = m.Version, m.Qty, m.Price
	if accepts && m.Qty > o.Filled {
		return told(v, at, api.Note{What: api.Replaced, Qty: m.Qty, Price: m.Price})
	}
	return told(v, at, api.Note{What: api.Refused})
}

// befalls: what a note tells befalls an order of a venue that is right.
func befalls(v api.Venue, id int64, n api.Note) (api.Venue, api.Errno) {
	at := Find(v, id)
	if at == api.None {
		return v, api.ErrNone
	}
	if v.Orders[at].Phase != api.Live || n.Qty > order.Open(v.Orders[at]) {
		return v, api.ErrState
	}
	if full(v) {
		return v, api.ErrFull
	}
	return told(copied(v), at, n), api.OK
}

// told: an order takes a note as those will who follow the notes, so that they know what the venue has of it.
func told(v api.Venue, at int, n api.Note) api.Venue {
	n.Seq, n.Order = int64(len(v.Notes))+1, v.Orders[at].Id
	// Whoever tells it asked ahead whether the order can take it.
	v.Orders[at], _ = order.Take(v.Orders[at], n)
	v.Notes = append(v.Notes, n)
	return v
}
