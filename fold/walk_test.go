package fold_test

import (
	"math"
	"math/rand"
	"slices"
	"testing"

	"snaffle/api"
	"snaffle/book"
	"snaffle/fold"
)

// number drawn from 1 on: most often a small one; of great ones often one near the greatest.
func number(draw *rand.Rand, great bool) int64 {
	if great && draw.Intn(3) == 0 {
		return []int64{most, most - 1, 1 << 62, 1<<62 - 1, 1 << 31}[draw.Intn(5)]
	}
	return 1 + draw.Int63n(9)
}

// order drawn of those that are there, most often.
func order(draw *rand.Rand, s api.State) api.Order {
	if len(s.Orders) == 0 || draw.Intn(20) == 0 {
		return api.Order{Id: 1 + draw.Int63n(s.Last+2)}
	}
	return s.Orders[draw.Intn(len(s.Orders))]
}

// event drawn, which its order can often take.
func event(draw *rand.Rand, s api.State) api.Rec {
	o := order(draw, s)
	r := tells(s.Seq+1, 1+draw.Intn(6), o.Id, 0, 0)
	if o.Phase == api.Sent && draw.Intn(3) > 0 {
		r.What = api.Ack
	}
	switch r.What {
	case api.Fill:
		r.Qty = 1 + draw.Int63n(max(o.Qty-o.Filled, 1))
	case api.Replaced:
		r.Qty, r.Price = max(o.NewQty, 1), max(o.NewPrice, 1)
	}
	return r
}

// asks is a record drawn that is no event, and that may often be done.
func asks(draw *rand.Rand, s api.State, great bool) api.Rec {
	switch draw.Intn(10) {
	case 0:
		return kills(draw.Intn(5) == 0)
	case 1:
		return cancels(order(draw, s).Id)
	case 2, 3, 4:
		return replaces(order(draw, s).Id, number(draw, great), number(draw, great))
	case 5:
		return bounds(draw.Intn(s.Accounts), draw.Intn(s.Symbols), number(draw, true), number(draw, true), number(draw, true))
	}
	r := of(buys(s.Last+1, number(draw, great), number(draw, great)), draw.Intn(s.Accounts), draw.Intn(s.Symbols))
	if draw.Intn(2) == 0 {
		r = sells(r)
	}
	return r
}

// done is a record drawn of any kind, which may be done but now and then.
func done(draw *rand.Rand, s api.State, great bool) api.Rec {
	r := asks(draw, s, great)
	for try := 0; try < 4 && book.May(s, r) != api.OK; try++ {
		r = asks(draw, s, great)
	}
	if draw.Intn(2) == 0 {
		r = event(draw, s)
	}
	return r
}

// odd is a record that may hardly ever be done.
func odd(draw *rand.Rand, s api.State) api.Rec {
	r := asks(draw, s, true)
	switch draw.Intn(5) {
	case 0:
		r.Kind = draw.Intn(9) - 1
	case 1:
		r.Order = draw.Int63n(s.Last + 1)
	case 2:
		r.Account, r.Symbol = s.Accounts, s.Symbols
	case 3:
		r = event(draw, s)
		r.Seq += 2*draw.Int63n(2) - 1
	}
	return r
}

// drawn is a walk: a state, records, and what there is behind each of them.
type drawn struct {
	s     api.State
	l     []api.Rec
	thens []api.State
	err   api.Errno // of the first that may not be done: it ends the walk
}

// walks so many records far at most, each done by itself.
func walks(t *testing.T, draw *rand.Rand, s api.State, steps int, next func(s api.State) api.Rec) drawn {
	t.Helper()
	w := drawn{s: s}
	for range steps {
		r := next(s)
		then, err := book.Do(s, r)
		w.l = append(w.l, r)
		if err != api.OK {
			w.err = err
			// Those behind one that may not be done must not matter.
			for range draw.Intn(4) {
				w.l = append(w.l, asks(draw, s, false))
			}
			break
		}
		s = then
		w.thens = append(w.thens, s)
	}
	return w
}

// behind so many records that were done.
func (w drawn) behind(n int) api.State {
	if n == 0 {
		return w.s
	}
	return w.thens[n-1]
}

// holds Fold of each first part of the records, and of it in two parts, against the walk.
func (w drawn) holds(t *testing.T) {
	t.Helper()
	for to := range len(w.l) + 1 {
		want, wantErr := min(to, len(w.thens)), api.OK
		if to > want {
			wantErr = w.err
		}
		got, n, err := folds(t, w.s, w.l[:to])
		if n != want || err != wantErr || !same(got, w.behind(want)) {
			t.Fatalf("Fold(%+v, %+v) = %+v, %d, %d; want %+v, %d, %d", w.s, w.l[:to], got, n, err, w.behind(want), want, wantErr)
		}
	}
	got, n, err := fold.Fold(w.s, w.l)
	for cut := range n + 1 {
		first, a, firstErr := fold.Fold(w.s, w.l[:cut])
		second, b, secondErr := fold.Fold(first, w.l[cut:])
		if firstErr != api.OK || secondErr != err || a != cut || a+b != n || !same(second, got) {
			t.Fatalf("Fold(%+v, %+v), cut at %d: %+v, %d and %d, %d and %d; at once %+v, %d, %d", w.s, w.l, cut, second, a, b, firstErr, secondErr, got, n, err)
		}
	}
}

// sized is a state drawn with limits that often stand against nothing.
func sized(t *testing.T, draw *rand.Rand) api.State {
	t.Helper()
	accounts, symbols := 1+draw.Intn(3), 1+draw.Intn(3)
	if draw.Intn(3) > 0 {
		return wide(t, accounts, symbols)
	}
	return begun(t, accounts, symbols, api.Expo{Long: 50, Short: 40, Open: 300}, 600)
}

// P11.1, P11.3: whatever is drawn, it is folded as each record is done by itself, at once or in two parts.
func TestFoldWalks(t *testing.T) {
	draw := rand.New(rand.NewSource(1))
	errs := map[api.Errno]int{}
	for i := range 700 {
		w := walks(t, draw, sized(t, draw), 30, func(s api.State) api.Rec {
			if draw.Intn(30) == 0 {
				return odd(draw, s)
			}
			return done(draw, s, i%2 == 0)
		})
		w.holds(t)
		errs[w.err]++
	}
	for _, err := range []api.Errno{api.OK, api.ErrArg, api.ErrOver, api.ErrLimit, api.ErrKill, api.ErrNone, api.ErrState, api.ErrGap} {
		if errs[err] < 10 {
			t.Errorf("error %d: %d walks", err, errs[err])
		}
	}
}

// asked is a state drawn with orders, some of which live, and were done in part.
func asked(t *testing.T, draw *rand.Rand, great bool) api.State {
	t.Helper()
	s := sized(t, draw)
	for range 40 {
		if then, err := book.Do(s, done(draw, s, great)); err == api.OK {
			s = then
		}
	}
	return s
}

// P11.3: a state covers whatever events make of it, and so does each state between.
func TestCoversEvents(t *testing.T) {
	draw := rand.New(rand.NewSource(2))
	less, full := 0, 0
	for i := range 500 {
		w := walks(t, draw, asked(t, draw, i%2 == 0), 30, func(s api.State) api.Rec { return event(draw, s) })
		if w.err != api.OK {
			t.Fatalf("an event may not be done: %d; %+v", w.err, w)
		}
		w.holds(t)
		for a := range len(w.l) + 1 {
			for b := a; b <= len(w.l); b++ {
				if !fold.Covers(w.behind(a), w.behind(b)) {
					t.Fatalf("%+v doesn't cover %+v", w.behind(a), w.behind(b))
				}
			}
		}
		if !fold.Covers(w.behind(len(w.l)), w.s) {
			less++
		} else {
			full++
		}
	}
	if less < 100 || full < 5 {
		t.Errorf("of %d walks less was left, of %d as much", less, full)
	}
}

// expos is what the chapters say that cells may come to, of a state that is right.
func expos(s api.State) []api.Expo {
	var l []api.Expo
	for _, c := range s.Cells {
		l = append(l, api.Expo{Long: c.Pos + c.Buy, Short: c.Sell - c.Pos, Open: c.Open})
	}
	return l
}

// covers is what the chapter says of states that are right.
func covers(a, b api.State) bool {
	if a.Accounts != b.Accounts || a.Symbols != b.Symbols {
		return false
	}
	x, y := expos(a), expos(b)
	for i := range x {
		if x[i].Long < y[i].Long || x[i].Short < y[i].Short || x[i].Open < y[i].Open {
			return false
		}
	}
	return true
}

// P11.2: whatever states are drawn, Expos and Covers are what the chapter says.
func TestCoversDrawn(t *testing.T) {
	draw := rand.New(rand.NewSource(3))
	yes, no := 0, 0
	for i := range 1500 {
		s := asked(t, draw, i%2 == 0)
		if got := fold.Expos(s); !slices.Equal(got, expos(s)) {
			t.Fatalf("%+v may come to %+v", s, got)
		}
		other := asked(t, draw, i%2 == 0)
		if draw.Intn(2) == 0 {
			// One that isn't far from it, a position a little otherwise.
			other = copied(s)
			other.Cells[draw.Intn(len(s.Cells))].Pos += draw.Int63n(3) - 1
		}
		if !book.Right(other) {
			continue
		}
		if draw.Intn(2) == 0 {
			if then, err := book.Do(other, asks(draw, other, false)); err == api.OK {
				other = then
			}
		}
		for _, x := range [][2]api.State{{s, other}, {other, s}} {
			got := fold.Covers(x[0], x[1])
			if got != covers(x[0], x[1]) {
				t.Fatalf("Covers(%+v, %+v) = %v", x[0], x[1], got)
			}
			if got {
				yes++
			} else {
				no++
			}
		}
	}
	if yes < 200 || no < 200 {
		t.Errorf("%d cover, %d don't", yes, no)
	}
}

// Rule 1: every call ends at whatever state, the greatest numbers in it too.
func TestAnyState(t *testing.T) {
	draw := rand.New(rand.NewSource(4))
	numbers := []int64{least, -1, 0, 1, 2, 3, 8, 9, 64, api.MaxLsn, api.MaxLsn + 1, api.MaxId, api.MaxId + 1, 1 << 61, most}
	pick := func() int64 { return numbers[draw.Intn(len(numbers))] }
	rights := 0
	for range 20000 {
		s := wide(t, 1+draw.Intn(2), 1+draw.Intn(2))
		s.Last, s.Seq, s.Lsn = pick(), pick(), pick()
		s.Cells[0], s.Limits[0], s.Caps[0] = api.Cell{Pos: pick()}, api.Expo{Long: pick(), Short: pick(), Open: pick()}, pick()
		switch draw.Intn(8) {
		case 0:
			s.Accounts, s.Symbols = int(pick()), int(pick())
		case 1:
			s.Cells[0] = api.Cell{Pos: pick(), Buy: pick(), Sell: pick(), Open: pick()}
		case 2:
			s.Orders = []api.Order{{Id: pick(), Account: int(pick()), Symbol: int(pick()), Side: int(pick()), Qty: pick(), Price: pick(), Phase: int(pick())}}
		}
		anyHolds(t, s, pick())
		if book.Right(s) {
			rights++
		}
	}
	if rights < 100 || rights > 10000 {
		t.Errorf("%d are right", rights)
	}
	for _, n := range []int{math.MinInt, math.MaxInt, 1 << 61, 1 << 32} {
		s := wide(t, 2, 2)
		s.Accounts, s.Symbols = n, n
		anyHolds(t, s, 1)
	}
}

// anyHolds what the chapter says of any state.
func anyHolds(t *testing.T, s api.State, id int64) {
	t.Helper()
	right := book.Right(s)
	if x := fold.Expos(s); (len(x) > 0) != right || right && !slices.Equal(x, expos(s)) {
		t.Fatalf("%+v may come to %+v", s, x)
	}
	if got := fold.Covers(s, s); got != right {
		t.Fatalf("%+v covers itself: %v", s, got)
	}
	l := []api.Rec{kills(true), cancels(id), {Kind: int(id)}}
	got, n, err := folds(t, s, l)
	if may := right && s.Lsn < api.MaxLsn; may != (n > 0) || n == 0 && (err != api.ErrArg || !same(got, s)) || err == api.OK {
		t.Fatalf("Fold(%+v, %+v) = %+v, %d, %d", s, l, got, n, err)
	}
	if got, n, err := folds(t, s, nil); !same(got, s) || n != 0 || err != api.OK {
		t.Fatalf("Fold(%+v) of nothing = %+v, %d, %d", s, got, n, err)
	}
}
