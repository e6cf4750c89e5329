package book

import (
	"slices"

	"snaffle/api"
	"snaffle/cell"
	"snaffle/limit"
	"snaffle/order"
)

// ledger is a state that is worked on. Its lists are its own; where a record may not be done it is thrown away, half
// done or not.
type ledger struct{ api.State }

// ledgerOf a state that is right.
func ledgerOf(s api.State) *ledger {
	s.Orders, s.Cells = slices.Clone(s.Orders), slices.Clone(s.Cells)
	s.Limits, s.Caps = slices.Clone(s.Limits), slices.Clone(s.Caps)
	return &ledger{s}
}

// do a record that may be asked for.
func (l *ledger) do(r api.Rec) api.Errno {
	switch r.Kind {
	case api.New:
		return l.begin(r)
	case api.Replace:
		return l.change(r)
	case api.Cancel:
		return l.end(r)
	case api.Bound:
		l.bound(r)
	case api.Kill:
		l.Kill = r.On
	case api.Event:
		return l.hear(r)
	}
	return api.OK
}

// begin an order, behind all others.
func (l *ledger) begin(r api.Rec) api.Errno {
	if l.Kill {
		return api.ErrKill
	}
	if len(l.Orders) >= api.MaxOrders {
		return api.ErrFull
	}
	o, err := order.Begin(r)
	if err != api.OK {
		return err
	}
	l.Orders, l.Last = append(l.Orders, o), o.Id
	then, err := cell.Come(l.Cells[l.at(o)], o)
	if err != api.OK {
		return api.ErrOver
	}
	return l.grow(o, then)
}

// change an order.
func (l *ledger) change(r api.Rec) api.Errno {
	i := Find(l.State, r.Order)
	if i == api.None {
		return api.ErrNone
	}
	was := l.Orders[i]
	o, err := order.Change(was, r.Qty, r.Price)
	if err != api.OK {
		return api.ErrState
	}
	// Only now: the switch is asked behind what the order itself says.
	if l.Kill {
		return api.ErrKill
	}
	l.Orders[i] = o
	then, err := again(l.Cells[l.at(o)], was, o, 0)
	if err != api.OK {
		return api.ErrOver
	}
	return l.grow(o, then)
}

// end an order.
func (l *ledger) end(r api.Rec) api.Errno {
	i := Find(l.State, r.Order)
	if i == api.None {
		return api.ErrNone
	}
	o, err := order.End(l.Orders[i])
	if err != api.OK {
		return api.ErrState
	}
	l.Orders[i] = o
	return api.OK
}

// bound a cell otherwise, or an account.
func (l *ledger) bound(r api.Rec) {
	if r.Symbol == api.None {
		l.Caps[r.Account] = r.Open
		return
	}
	l.Limits[Place(l.State, r.Account, r.Symbol)] = api.Expo{Long: r.Long, Short: r.Short, Open: r.Open}
}

// hear an event.
func (l *ledger) hear(r api.Rec) api.Errno {
	if r.Seq != l.Seq+1 {
		return api.ErrGap
	}
	l.Seq = r.Seq
	i := Find(l.State, r.Order)
	if i == api.None {
		return api.OK
	}
	was := l.Orders[i]
	o, err := order.Take(was, api.Note{Seq: r.Seq, What: r.What, Order: r.Order, Qty: r.Qty, Price: r.Price})
	if err != api.OK {
		// It was heard all the same: a note that comes late tells nothing more.
		return api.OK
	}
	return l.settle(i, o, did(r))
}

// settle an order as it is now, so many of it being done.
func (l *ledger) settle(i int, o api.Order, qty int64) api.Errno {
	at := l.at(o)
	then, err := again(l.Cells[at], l.Orders[i], o, qty)
	if err != api.OK {
		return err
	}
	l.Cells[at] = then
	if o.Phase == api.Done {
		l.Orders = slices.Delete(l.Orders, i, i+1)
	} else {
		l.Orders[i] = o
	}
	return api.OK
}

// grow an order's cell to what it is then: what is open together must be a number, and nothing stand against it.
func (l *ledger) grow(o api.Order, then api.Cell) api.Errno {
	was, wasOpen, err := l.weigh(o)
	if err != api.OK {
		return err
	}
	at := l.at(o)
	l.Cells[at] = then
	now, nowOpen, err := l.weigh(o)
	if err != api.OK {
		return err
	}
	if limit.Against(was, now, l.Limits[at]) || limit.AgainstCap(wasOpen, nowOpen, l.Caps[o.Account]) {
		return api.ErrLimit
	}
	return api.OK
}

// weigh what an order's cell may come to, and what is open of its account together.
func (l *ledger) weigh(o api.Order) (api.Expo, int64, api.Errno) {
	x, err := cell.Of(l.Cells[l.at(o)])
	if err != api.OK {
		return api.Expo{}, 0, err
	}
	open, err := limit.Whole(cellsOf(l.State, o.Account))
	return x, open, err
}

// at which place is an order's cell?
func (l *ledger) at(o api.Order) int { return Place(l.State, o.Account, o.Symbol) }

// again an order comes to a cell, as it is now, so many of its side being done.
func again(c api.Cell, was, now api.Order, qty int64) (api.Cell, api.Errno) {
	c, err := cell.Go(c, was)
	if err != api.OK {
		return c, err
	}
	c, err = cell.Did(c, was.Side, qty)
	if err != api.OK {
		return c, err
	}
	// One that is Done comes as nothing.
	return cell.Come(c, now)
}

// did an event tell of some that are done, how many?
func did(r api.Rec) int64 {
	if r.What == api.Fill {
		return r.Qty
	}
	return 0
}
