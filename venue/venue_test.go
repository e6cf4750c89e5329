package venue_test

import (
	"testing"

	"snaffle/api"
)

// P16.2: a message stands behind all others, whatever it is, and however often.
func TestSend(t *testing.T) {
	v := busy(t)
	var l []api.Msg
	for _, m := range []api.Msg{
		news(5, 10, 3), news(5, 11, 3), replaces(5, 1, 1, 9), cancels(5), cancels(5), cancels(99), replaces(99, 1, 1, 1),
		{Kind: api.New, Order: api.MaxId, Account: 7, Symbol: 7, Side: api.Buy, Qty: most, Price: most, Lsn: api.MaxLsn},
	} {
		l = append(l, m)
		is := all(t, v, send(m))
		v = is
		if want := with(busy(t), l...); !same(is, want) {
			t.Errorf("%s; want %s", shown(is), shown(want))
		}
	}
}

// P16.2: a message that isn't right: ErrArg, also where there is no room.
func TestSendWrong(t *testing.T) {
	for what, m := range wrongMessages() {
		for _, v := range []api.Venue{{}, busy(t), full400(), full(400, 400)} {
			refuses(t, what, v, send(m), api.ErrArg)
		}
	}
}

// P16.2: as many messages as there may be, and not one more; how many orders and notes there are is the same to Send.
func TestSendMany(t *testing.T) {
	for _, v := range []api.Venue{{}, full(400, 0), full(0, 400), full(400, 400)} {
		m := news(5, 10, 3)
		less := with(v, full400().Inbox[1:]...)
		is := all(t, less, send(cancels(7)))
		if len(is.Inbox) != 400 || is.Inbox[399] != cancels(7) || is.Inbox[398] != m {
			t.Errorf("%d messages, the last one %+v", len(is.Inbox), is.Inbox[len(is.Inbox)-1])
		}
		refuses(t, "full", is, send(m), api.ErrFull)
	}
}

// P16.2: where there is no message there is none to take, also where there is no room for a note.
func TestTakeNothing(t *testing.T) {
	for _, v := range []api.Venue{{}, {Inbox: []api.Msg{}}, full(3, 3), full(400, 400), full(0, 400)} {
		refuses(t, "no message", v, take(true), api.ErrNone)
		refuses(t, "no message", v, take(false), api.ErrNone)
	}
}

// comes holds what a message that came, and is taken, makes of a venue: another order, or none, and a note, or none.
func comes(t *testing.T, what string, v api.Venue, m api.Msg, accepts bool, change func(v *api.Venue)) {
	t.Helper()
	want := but(v, change)
	want.Inbox = []api.Msg{cancels(77)}
	// Another message behind it stays.
	is := all(t, with(v, m, cancels(77)), take(accepts))
	if !same(is, want) {
		t.Errorf("%s: %s\nwant %s", what, shown(is), shown(want))
	}
}

// nothing happens.
func nothing(v *api.Venue) {}

// some venue with three orders: 5 is Live and 4 of 10 are done, 7 and 9 are Done; and with one note.
func some() api.Venue {
	o, done, rest := ordered(news(5, 10, 3), api.Live), ordered(news(7, 4, 6), api.Done), ordered(news(9, 20, 2), api.Done)
	o.Filled, o.Version, done.Filled = 4, 6, 4
	return api.Venue{Orders: []api.Order{o, done, rest}, Notes: []api.Note{{Seq: 1, What: api.Ack, Order: 5}}}
}

// P16.2: New, by name.
func TestTakeNew(t *testing.T) {
	ack := func(id int64) api.Note { return api.Note{Seq: 2, What: api.Ack, Order: id} }
	reject := func(id int64) api.Note { return api.Note{Seq: 2, What: api.Reject, Order: id} }
	for id, at := range map[int64]int{1: 0, 4: 0, 6: 1, 8: 2, 10: 3, api.MaxId: 3} {
		comes(t, "accepted", some(), news(id, 8, 2), true, func(v *api.Venue) {
			v.Orders = append(append(some().Orders[:at:at], ordered(news(id, 8, 2), api.Live)), some().Orders[at:]...)
			v.Notes = append(v.Notes, ack(id))
		})
		comes(t, "not accepted", some(), news(id, 8, 2), false, func(v *api.Venue) {
			v.Orders = append(append(some().Orders[:at:at], ordered(news(id, 8, 2), api.Done)), some().Orders[at:]...)
			v.Notes = append(v.Notes, reject(id))
		})
	}
	for _, accepts := range []bool{true, false} {
		for _, id := range []int64{5, 7, 9} {
			comes(t, "known", some(), news(id, 10, 3), accepts, nothing)
			comes(t, "known, another quantity", some(), news(id, 99, 9), accepts, nothing)
		}
		comes(t, "known, another account", some(), api.Msg{Kind: api.New, Order: 5, Account: 3, Side: api.Buy, Qty: 1, Price: 1}, accepts, nothing)
	}
}

// P16.2: Replace, by name.
func TestTakeReplace(t *testing.T) {
	replaced := func(qty, price, version int64) func(v *api.Venue) {
		return func(v *api.Venue) {
			v.Orders[0].Qty, v.Orders[0].Price, v.Orders[0].Version = qty, price, version
			v.Notes = append(v.Notes, api.Note{Seq: 2, What: api.Replaced, Order: 5, Qty: qty, Price: price})
		}
	}
	refused := func(version int64) func(v *api.Venue) {
		return func(v *api.Venue) {
			v.Orders[0].Version = version
			v.Notes = append(v.Notes, api.Note{Seq: 2, What: api.Refused, Order: 5})
		}
	}
	for _, qty := range []int64{5, 6, 10, 11, most} {
		for _, version := range []int64{7, 8, most} {
			comes(t, "accepted", some(), replaces(5, qty, 9, version), true, replaced(qty, 9, version))
			comes(t, "not accepted", some(), replaces(5, qty, 9, version), false, refused(version))
		}
	}
	for _, qty := range []int64{1, 2, 3, 4} {
		comes(t, "no more than was done", some(), replaces(5, qty, 9, 7), true, refused(7))
		comes(t, "no more than was done", some(), replaces(5, qty, 9, 7), false, refused(7))
	}
	for _, accepts := range []bool{true, false} {
		for _, version := range []int64{1, 2, 5, 6} {
			comes(t, "no newer version", some(), replaces(5, 20, 9, version), accepts, nothing)
			comes(t, "no newer version, no more than was done", some(), replaces(5, 4, 9, version), accepts, nothing)
		}
		for _, id := range []int64{7, 9} {
			comes(t, "done", some(), replaces(id, 50, 9, 7), accepts, nothing)
		}
		for _, id := range []int64{1, 6, 10} {
			comes(t, "not known", some(), replaces(id, 50, 9, 7), accepts, nothing)
		}
	}
	// Whose the message says that the order is is the same to it.
	comes(t, "another account", some(), api.Msg{Kind: api.Replace, Order: 5, Account: 3, Side: api.Buy, Qty: 8, Price: 1, Version: 7}, true, replaced(8, 1, 7))
}

// P16.2: Cancel, by name.
func TestTakeCancel(t *testing.T) {
	comes(t, "accepted", some(), cancels(5), true, func(v *api.Venue) {
		v.Orders[0].Phase = api.Done
		v.Notes = append(v.Notes, api.Note{Seq: 2, What: api.Out, Order: 5})
	})
	comes(t, "not accepted", some(), cancels(5), false, nothing)
	for _, accepts := range []bool{true, false} {
		for _, id := range []int64{7, 9} {
			comes(t, "done", some(), cancels(id), accepts, nothing)
		}
		for _, id := range []int64{1, 6, 10} {
			comes(t, "not known", some(), cancels(id), accepts, nothing)
		}
	}
}

// P16.2: all orders of small numbers, and all messages of small numbers of them.
func TestTakeSmall(t *testing.T) {
	for qty := int64(1); qty <= 3; qty++ {
		for done := int64(0); done <= qty; done++ {
			for phase := api.Live; phase <= api.Done; phase++ {
				for version := range int64(3) {
					o := ordered(news(5, qty, 2), phase)
					o.Filled, o.Version = done, version
					takesAll(t, api.Venue{Orders: []api.Order{o}})
				}
			}
		}
	}
}

// takesAll messages of small numbers, each by itself.
func takesAll(t *testing.T, v api.Venue) {
	t.Helper()
	if !right(v) {
		refuses(t, "wrong", with(v, cancels(5)), take(true), api.ErrArg)
		return
	}
	for _, accepts := range []bool{true, false} {
		for id := int64(4); id <= 6; id++ {
			all(t, with(v, cancels(id)), take(accepts))
			for qty := int64(1); qty <= 4; qty++ {
				all(t, with(v, news(id, qty, 2)), take(accepts))
				for version := int64(1); version <= 3; version++ {
					all(t, with(v, replaces(id, qty, 3, version)), take(accepts))
				}
			}
		}
	}
}

// P16.2: where there are as many notes as there may be, nothing is taken, not even what does nothing.
func TestTakeWithoutRoomForNotes(t *testing.T) {
	for _, accepts := range []bool{true, false} {
		for _, m := range []api.Msg{news(1, 1, 1), news(1000, 1, 1), replaces(1000, 9, 9, 1), replaces(1, 1, 1, 1), cancels(1000), cancels(1)} {
			refuses(t, "400 notes", with(full(3, 400), m), take(accepts), api.ErrFull)
			refuses(t, "400 notes", with(full(400, 400), m), take(accepts), api.ErrFull)
			is := all(t, with(full(3, 399), m, m), take(accepts))
			if noted := len(is.Notes) == 400; noted {
				refuses(t, "400 notes now", is, take(accepts), api.ErrFull)
			} else {
				all(t, is, take(accepts))
			}
		}
	}
}

// P16.2: where there are as many orders as there may be, a New of one that isn't known is not taken, all else is.
func TestTakeWithoutRoomForOrders(t *testing.T) {
	for _, accepts := range []bool{true, false} {
		for _, id := range []int64{1, 999, 1400, api.MaxId} {
			refuses(t, "400 orders", with(full(400, 3), news(id, 1, 1)), take(accepts), api.ErrFull)
			is := all(t, with(full(399, 3), news(500, 1, 1), news(id, 1, 1)), take(accepts))
			if len(is.Orders) != 400 {
				t.Error(len(is.Orders), "orders")
			}
			refuses(t, "400 orders now", is, take(accepts), api.ErrFull)
		}
		for _, m := range []api.Msg{
			news(1000, 1, 1), news(1399, 1, 1), replaces(1399, 9, 9, 1), cancels(1000), cancels(1), replaces(1, 1, 1, 1),
		} {
			all(t, with(full(400, 3), m), take(accepts))
		}
	}
}

// P16.3: some of an order, and all of it.
func TestFill(t *testing.T) {
	for qty := int64(1); qty <= 6; qty++ {
		is := all(t, some(), fill(5, qty))
		want := but(some(), func(v *api.Venue) {
			v.Orders[0].Filled = 4 + qty
			if qty == 6 {
				v.Orders[0].Phase = api.Done
			}
			v.Notes = append(v.Notes, api.Note{Seq: 2, What: api.Fill, Order: 5, Qty: qty})
		})
		if !same(is, want) {
			t.Errorf("%d: %s; want %s", qty, shown(is), shown(want))
		}
	}
	is := all(t, some(), fill(5, 1), fill(5, 2), fill(5, 3))
	if o := is.Orders[0]; o.Phase != api.Done || o.Filled != 10 || len(is.Notes) != 4 {
		t.Errorf("%s", shown(is))
	}
	// What came is let be.
	all(t, busy(t), fill(5, 3))
	all(t, api.Venue{Orders: []api.Order{ordered(news(1, most, most), api.Live)}}, fill(1, most-1), fill(1, 1))
}

// P16.3: what stands against it, each in its turn: ErrArg, ErrNone, ErrState, ErrFull.
func TestFillWrong(t *testing.T) {
	for _, v := range []api.Venue{{}, some(), busy(t), with(full(400, 400), full400().Inbox...)} {
		for _, qty := range []int64{0, -1, -6, least, least + 1} {
			for _, id := range []int64{5, 7, 99, 0, 1000} {
				refuses(t, "no quantity", v, fill(id, qty), api.ErrArg)
			}
		}
		for _, qty := range []int64{1, 6, 7, most} {
			for _, id := range []int64{0, -1, 4, 6, 8, 10, 11, 999, 1400, most, least} {
				refuses(t, "not known", v, fill(id, qty), api.ErrNone)
			}
		}
	}
	for _, qty := range []int64{1, 4, 6, 10, most} {
		refuses(t, "done", some(), fill(7, qty), api.ErrState)
		refuses(t, "done", some(), fill(9, qty), api.ErrState)
	}
	for _, qty := range []int64{7, 8, 10, 11, most - 1, most} {
		refuses(t, "more than is open", some(), fill(5, qty), api.ErrState)
	}
	v := full(3, 400)
	v.Orders[1].Phase = api.Done
	refuses(t, "done, and no room", v, fill(1001, 1), api.ErrState)
	refuses(t, "more than is open, and no room", v, fill(1000, 11), api.ErrState)
	refuses(t, "no room", v, fill(1000, 10), api.ErrFull)
	refuses(t, "no room", v, fill(1002, 1), api.ErrFull)
	refuses(t, "no room now", all(t, full(3, 399), fill(1000, 1)), fill(1000, 1), api.ErrFull)
}

// P16.3: an order ends.
func TestOut(t *testing.T) {
	is := all(t, some(), out(5))
	want := but(some(), func(v *api.Venue) {
		v.Orders[0].Phase = api.Done
		v.Notes = append(v.Notes, api.Note{Seq: 2, What: api.Out, Order: 5})
	})
	if !same(is, want) {
		t.Errorf("%s; want %s", shown(is), shown(want))
	}
	all(t, busy(t), out(5))
	all(t, full(400, 397), out(1399), out(1000), out(1200))
}

// P16.3: what stands against it, each in its turn: ErrNone, ErrState, ErrFull.
func TestOutWrong(t *testing.T) {
	for _, v := range []api.Venue{{}, some(), busy(t), with(full(400, 400), full400().Inbox...)} {
		for _, id := range []int64{0, -1, 4, 6, 8, 10, 11, 999, 1400, most, least} {
			refuses(t, "not known", v, out(id), api.ErrNone)
		}
	}
	refuses(t, "done", some(), out(7), api.ErrState)
	refuses(t, "done", some(), out(9), api.ErrState)
	refuses(t, "done now", all(t, some(), out(5)), out(5), api.ErrState)
	refuses(t, "filled now", all(t, some(), fill(5, 6)), out(5), api.ErrState)
	v := full(3, 400)
	v.Orders[1].Phase = api.Done
	refuses(t, "done, and no room", v, out(1001), api.ErrState)
	refuses(t, "no room", v, out(1000), api.ErrFull)
	refuses(t, "no room now", all(t, full(3, 399), out(1000)), out(1002), api.ErrFull)
}
