package venue_test

import (
	"slices"
	"testing"

	"snaffle/api"
	"snaffle/venue"
)

// P16.1: a message of each kind is right, or isn't, by each of its numbers at all edges.
func TestEachMessage(t *testing.T) {
	rights := 0
	for _, in := range messageShapes() {
		for _, l := range samples(in) {
			m := message(l)
			want := fitsOne(l, messageShapes())
			if got := venue.RightMsg(m); got != want {
				t.Fatalf("RightMsg(%+v) = %v", m, got)
			}
			if got := venue.Right(api.Venue{Inbox: []api.Msg{news(1, 1, 1), m}}); got != want {
				t.Fatalf("Right of a venue with %+v = %v", m, got)
			}
			if want {
				rights++
			}
		}
	}
	if rights < 100 {
		t.Error(rights, "were right")
	}
}

// P16.1: messages by name that are right.
func TestRightMessages(t *testing.T) {
	for what, m := range map[string]api.Msg{
		"new":              news(5, 10, 3),
		"least new":        {Kind: api.New, Order: 1, Side: api.Buy, Qty: 1, Price: 1},
		"greatest new":     {Kind: api.New, Order: api.MaxId, Account: 7, Symbol: 7, Side: api.Sell, Qty: most, Price: most, Lsn: api.MaxLsn},
		"replace":          replaces(5, 10, 3, 1),
		"greatest version": replaces(5, 1, 1, most),
		"cancel":           cancels(5),
		"of no record":     {Kind: api.Cancel, Order: 1, Side: api.Buy},
	} {
		if !venue.RightMsg(m) {
			t.Errorf("%s: %+v isn't right", what, m)
		}
	}
}

// wrongMessages by name.
func wrongMessages() map[string]api.Msg {
	with := func(m api.Msg, change func(m *api.Msg)) api.Msg {
		change(&m)
		return m
	}
	n, r, c := news(5, 10, 3), replaces(5, 10, 3, 1), cancels(5)
	return map[string]api.Msg{
		"nothing":                 {},
		"bound":                   with(c, func(m *api.Msg) { m.Kind = api.Bound }),
		"event":                   with(n, func(m *api.Msg) { m.Kind = api.Event }),
		"no kind":                 with(n, func(m *api.Msg) { m.Kind = 0 }),
		"no order":                with(n, func(m *api.Msg) { m.Order = 0 }),
		"above all orders":        with(c, func(m *api.Msg) { m.Order = api.MaxId + 1 }),
		"no account":              with(n, func(m *api.Msg) { m.Account = api.None }),
		"above all accounts":      with(r, func(m *api.Msg) { m.Account = api.MaxAccounts }),
		"no symbol":               with(r, func(m *api.Msg) { m.Symbol = api.None }),
		"above all symbols":       with(c, func(m *api.Msg) { m.Symbol = api.MaxSymbols }),
		"no side":                 with(c, func(m *api.Msg) { m.Side = 0 }),
		"both sides":              with(n, func(m *api.Msg) { m.Side = 3 }),
		"record below 0":          with(n, func(m *api.Msg) { m.Lsn = -1 }),
		"above all records":       with(r, func(m *api.Msg) { m.Lsn = api.MaxLsn + 1 }),
		"new of nothing":          with(n, func(m *api.Msg) { m.Qty = 0 }),
		"new at nothing":          with(n, func(m *api.Msg) { m.Price = 0 }),
		"new with a version":      with(n, func(m *api.Msg) { m.Version = 1 }),
		"replace of nothing":      with(r, func(m *api.Msg) { m.Qty = 0 }),
		"replace at nothing":      with(r, func(m *api.Msg) { m.Price = 0 }),
		"replace without version": with(r, func(m *api.Msg) { m.Version = 0 }),
		"cancel of some":          with(c, func(m *api.Msg) { m.Qty = 1 }),
		"cancel at a price":       with(c, func(m *api.Msg) { m.Price = 1 }),
		"cancel with a version":   with(c, func(m *api.Msg) { m.Version = 1 }),
	}
}

// P16.1: an order that a venue knows is right, or isn't, by each of its numbers at all edges.
func TestEachOrder(t *testing.T) {
	for _, qty := range []int64{1, 2, 10, most} {
		for _, in := range orderShapes(qty) {
			in[4] = is(qty)
			for _, l := range samples(in) {
				if l[11] != 0 && l[11] != 1 {
					continue
				}
				v := api.Venue{Orders: []api.Order{orderOf(l)}}
				if got, want := venue.Right(v), fitsOne(l, orderShapes(l[4])); got != want {
					t.Fatalf("Right(%s) = %v", shown(v), got)
				}
			}
		}
	}
}

// P16.1: a note is right, or isn't, by each of its numbers at all edges, the first one and one behind others.
func TestEachNote(t *testing.T) {
	for _, seq := range []int64{1, 2, 3} {
		for _, in := range noteShapes(seq) {
			for _, l := range samples(in) {
				v := full(0, int(seq-1))
				v.Notes = append(v.Notes, noteOf(l))
				if got, want := venue.Right(v), fitsOne(l, noteShapes(seq)); got != want {
					t.Fatalf("Right(%s) = %v", shown(v), got)
				}
			}
		}
	}
}

// wrongVenues aren't right, by one thing each.
func wrongVenues(t *testing.T) map[string]api.Venue {
	t.Helper()
	l := map[string]api.Venue{
		"401 messages": but(busy(t), func(v *api.Venue) { v.Inbox = slices.Repeat([]api.Msg{cancels(5)}, 401) }),
		"401 orders":   with(full(401, 0), news(5, 1, 1)),
		"401 notes":    with(full(400, 401), news(5, 1, 1)),
	}
	for what, change := range map[string]func(v *api.Venue){
		"the first message":       func(v *api.Venue) { v.Inbox[0].Order = 0 },
		"the last message":        func(v *api.Venue) { v.Inbox[1].Version = 1 },
		"the first order's phase": func(v *api.Venue) { v.Orders[0].Phase = 0 },
		"the last order's price":  func(v *api.Venue) { v.Orders[3].Price = 0 },
		"an order that is sent": func(v *api.Venue) {
			v.Orders[1] = ordered(news(5, 10, 3), api.Sent)
		},
		"an order that is asked":    func(v *api.Venue) { v.Orders[1].Asked = true },
		"a done one that is asked":  func(v *api.Venue) { v.Orders[0].Asked = true },
		"something pending":         func(v *api.Venue) { v.Orders[1].NewQty, v.Orders[1].NewPrice = 7, 7 },
		"a live one that is filled": func(v *api.Venue) { v.Orders[1].Filled = v.Orders[1].Qty },
		"an order twice":            func(v *api.Venue) { v.Orders[1] = v.Orders[0] },
		"a number that falls":       func(v *api.Venue) { v.Orders[3].Id = 6 },
		"orders turned about":       func(v *api.Venue) { slices.Reverse(v.Orders) },
		"no first note":             func(v *api.Venue) { v.Notes = v.Notes[1:] },
		"the first note's number":   func(v *api.Venue) { v.Notes[0].Seq = 0 },
		"a note less":               func(v *api.Venue) { v.Notes = slices.Delete(v.Notes, 4, 5) },
		"a note twice":              func(v *api.Venue) { v.Notes[5] = v.Notes[4] },
		"notes turned about":        func(v *api.Venue) { slices.Reverse(v.Notes) },
		"a number that is left out": func(v *api.Venue) { v.Notes[8].Seq++ },
		"a note of nothing":         func(v *api.Venue) { v.Notes[0].What = 0 },
		"a note of no order":        func(v *api.Venue) { v.Notes[8].Order = 0 },
		"an ack of some":            func(v *api.Venue) { v.Notes[0].Qty = 1 },
	} {
		l[what] = but(busy(t), change)
	}
	return l
}

// P16.1, P16.2, P16.3: a venue that isn't right, each by one thing: ErrArg, ahead of all.
func TestWrongVenues(t *testing.T) {
	for what, v := range wrongVenues(t) {
		if venue.Right(v) || right(v) {
			t.Errorf("%s: %s is right", what, shown(v))
		}
		for _, c := range []call{
			send(news(1, 1, 1)), send(api.Msg{}), take(true), take(false), fill(5, 1), fill(5, 0), fill(5, 100), fill(99, 1),
			fill(3, 1), out(5), out(3), out(99),
		} {
			refuses(t, what, v, c, api.ErrArg)
			refuses(t, what, but(v, func(v *api.Venue) { v.Inbox = append(full400().Inbox, v.Inbox...) }), c, api.ErrArg)
		}
	}
}

// full400 is a venue to which 400 messages came.
func full400() api.Venue {
	return api.Venue{Inbox: slices.Repeat([]api.Msg{news(5, 10, 3)}, 400)}
}

// P16.1: venues by name that are right.
func TestRightVenues(t *testing.T) {
	for what, v := range map[string]api.Venue{
		"nothing":      {},
		"empty":        {Inbox: []api.Msg{}, Orders: []api.Order{}, Notes: []api.Note{}},
		"busy":         busy(t),
		"400 messages": full400(),
		"400 orders":   full(400, 0),
		"400 notes":    full(0, 400),
		"400 of each":  with(full(400, 400), full400().Inbox...),
		"notes of an order that isn't known": {Notes: []api.Note{
			{Seq: 1, What: api.Fill, Order: 9, Qty: 4}, {Seq: 2, What: api.Ack, Order: 9},
		}},
		"a message twice":     {Inbox: []api.Msg{cancels(5), cancels(5)}},
		"a price beyond all":  {Orders: []api.Order{ordered(news(5, most, most), api.Live)}},
		"one filled in whole": {Orders: []api.Order{{Id: 1, Side: api.Buy, Qty: 2, Price: 1, Filled: 2, Phase: api.Done, Version: most}}},
		"one filled in part":  {Orders: []api.Order{{Id: 1, Side: api.Buy, Qty: 2, Price: 1, Filled: 1, Phase: api.Done}}},
	} {
		if !venue.Right(v) || !right(v) {
			t.Errorf("%s: %s isn't right", what, shown(v))
		}
	}
}

// P16.1: what the venue is that other tests begin with, number by number.
func TestBusy(t *testing.T) {
	v := busy(t)
	o := func(id, qty, price, filled int64, phase int, version int64) api.Order {
		return api.Order{
			Id: id, Account: 1, Symbol: 2, Side: api.Sell, Qty: qty, Price: price, Filled: filled, Phase: phase, Version: version,
		}
	}
	want := api.Venue{
		Inbox: []api.Msg{news(11, 5, 5), cancels(5)},
		Orders: []api.Order{
			o(3, 8, 8, 0, api.Done, 0), o(5, 12, 2, 4, api.Live, 3), o(7, 4, 6, 4, api.Done, 0), o(9, 20, 2, 0, api.Done, 0),
		},
		Notes: []api.Note{
			{Seq: 1, What: api.Ack, Order: 5}, {Seq: 2, What: api.Ack, Order: 9}, {Seq: 3, What: api.Ack, Order: 7},
			{Seq: 4, What: api.Replaced, Order: 5, Qty: 12, Price: 2}, {Seq: 5, What: api.Reject, Order: 3},
			{Seq: 6, What: api.Refused, Order: 5}, {Seq: 7, What: api.Fill, Order: 5, Qty: 4},
			{Seq: 8, What: api.Fill, Order: 7, Qty: 4}, {Seq: 9, What: api.Out, Order: 9},
		},
	}
	if !same(v, want) {
		t.Errorf("%s\nwant %s", shown(v), shown(want))
	}
}

// P16.1: Find tells the place of each order that is known, and None of all others.
func TestFind(t *testing.T) {
	for _, v := range []api.Venue{{}, busy(t), full(400, 3)} {
		for _, id := range append(edges(), 1000, 1001, 1398, 1399, 1400) {
			if got, want := venue.Find(roomy(v), id), place(v, id); got != want {
				t.Errorf("Find(%s, %d) = %d; want %d", shown(v), id, got, want)
			}
		}
	}
	for i, id := range []int64{3, 5, 7, 9} {
		if got := venue.Find(busy(t), id); got != i {
			t.Errorf("Find(%d) = %d; want %d", id, got, i)
		}
	}
	// Those whose New came, but wasn't taken, aren't known.
	if got := venue.Find(busy(t), 11); got != api.None {
		t.Errorf("Find(11) = %d", got)
	}
}

// P16.1: of any venue, right or not, Find tells the first one.
func TestFindOfAny(t *testing.T) {
	ids := []int64{9, 4, 4, 0, -7, 9, most, 4, 0, least, 9, 2}
	var v api.Venue
	for _, id := range ids {
		v.Orders = append(v.Orders, api.Order{Id: id})
	}
	v.Notes, v.Inbox = []api.Note{{}}, []api.Msg{{}}
	for _, id := range edges() {
		if got, want := venue.Find(v, id), slices.Index(ids, id); got != want {
			t.Errorf("Find(%d) = %d; want %d", id, got, want)
		}
	}
	for what, v := range wrongVenues(t) {
		for i, o := range v.Orders {
			if got := venue.Find(v, o.Id); got != place(v, o.Id) || got > i {
				t.Errorf("%s: Find(%d) = %d", what, o.Id, got)
			}
		}
	}
	many := full(401, 0)
	if got := venue.Find(many, 1400); got != 400 {
		t.Errorf("Find(1400) = %d", got)
	}
	many.Orders = append(many.Orders, many.Orders...)
	if got := venue.Find(many, 1400); got != 400 {
		t.Errorf("Find(1400) = %d, of two", got)
	}
}
