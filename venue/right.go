package venue

import (
	"snaffle/api"
	"snaffle/order"
	"snaffle/rec"
)

// mayName an order so, its account, symbol and side, and a record?
func mayName(m api.Msg) bool {
	return m.Order >= 1 && m.Order <= api.MaxId &&
		m.Account >= 0 && m.Account < api.MaxAccounts &&
		m.Symbol >= 0 && m.Symbol < api.MaxSymbols &&
		(m.Side == api.Buy || m.Side == api.Sell) &&
		m.Lsn >= 0 && m.Lsn <= api.MaxLsn
}

// mayAsk for so much, by its kind?
func mayAsk(m api.Msg) bool {
	switch m.Kind {
	case api.New:
		return m.Qty >= 1 && m.Price >= 1 && m.Version == 0
	case api.Replace:
		return m.Qty >= 1 && m.Price >= 1 && m.Version >= 1
	case api.Cancel:
		return m.Qty == 0 && m.Price == 0 && m.Version == 0
	}
	return false
}

// mayInbox: so many messages, each right?
func mayInbox(l []api.Msg) bool {
	if len(l) > api.MaxInbox {
		return false
	}
	for _, m := range l {
		if !RightMsg(m) {
			return false
		}
	}
	return true
}

// mayOrders be known to a venue?
func mayOrders(l []api.Order) bool {
	if len(l) > api.MaxNotes {
		return false
	}
	for i, o := range l {
		if !order.Right(o) || !mayKnow(o) || i > 0 && o.Id <= l[i-1].Id {
			return false
		}
	}
	return true
}

// mayKnow an order so? What a venue answers is at once: it knows none that waits for it.
func mayKnow(o api.Order) bool {
	return o.Phase != api.Sent && o.NewQty == 0 && !o.Asked
}

// mayNotes: so many, from the first one on?
func mayNotes(l []api.Note) bool {
	if len(l) > api.MaxNotes {
		return false
	}
	for i, n := range l {
		if n.Seq != int64(i)+1 || !rec.Right(rec.OfNote(n)) {
			return false
		}
	}
	return true
}
