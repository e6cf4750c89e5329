package row_test

import (
	"bytes"
	"encoding/binary"
	"hash/crc32"
	"math"
	"math/big"
	"math/rand"
	"slices"
	"testing"

	"snaffle/api"
	"snaffle/book"
	"snaffle/order"
	"snaffle/row"
)

// What the chapter says, told otherwise: parts of fixed width, put and read by the library, and cells made in whole
// numbers without bounds.

const (
	most  = math.MaxInt64
	least = math.MinInt64
)

// head is what stands ahead of the orders.
type head struct {
	Mark                            [4]byte
	Accounts, Symbols, Kill, Orders uint8
	Last, Seq, Lsn                  int64
}

// line is an order.
type line struct {
	Id                                            int64
	Account, Symbol, Side, Phase                  uint8
	Qty, Price, Filled, NewQty, NewPrice, Version int64
	Asked                                         uint8
}

// fields are all that a state's bytes have, and may be such as no state has.
type fields struct {
	Head   head
	Lines  []line
	Pos    []int64
	Limits []api.Expo
	Caps   []int64
}

func one(on bool) uint8 {
	if on {
		return 1
	}
	return 0
}

// fieldsOf a state whose numbers fit.
func fieldsOf(s api.State) fields {
	f := fields{Head: head{
		[4]byte{0x73, 0x6E, 0x61, 0x66}, uint8(s.Accounts), uint8(s.Symbols), one(s.Kill), uint8(len(s.Orders)), s.Last, s.Seq, s.Lsn,
	}}
	for _, o := range s.Orders {
		f.Lines = append(f.Lines, line{
			o.Id, uint8(o.Account), uint8(o.Symbol), uint8(o.Side), uint8(o.Phase),
			o.Qty, o.Price, o.Filled, o.NewQty, o.NewPrice, o.Version, one(o.Asked),
		})
	}
	for _, c := range s.Cells {
		f.Pos = append(f.Pos, c.Pos)
	}
	f.Limits, f.Caps = slices.Clone(s.Limits), slices.Clone(s.Caps)
	return f
}

// bytes of the fields, with a sum that fits.
func (f fields) bytes() []byte {
	var b bytes.Buffer
	for _, part := range []any{f.Head, f.Lines, f.Pos, f.Limits, f.Caps} {
		if err := binary.Write(&b, binary.BigEndian, part); err != nil {
			panic(err)
		}
	}
	return fitted(append(b.Bytes(), 0, 0, 0, 0))
}

// fitted are bytes with the sum that fits those ahead of the last four.
func fitted(b []byte) []byte {
	n := len(b) - 4
	return binary.LittleEndian.AppendUint32(bytes.Clone(b[:n]), crc32.ChecksumIEEE(b[:n]))
}

// sized is how many bytes a state of so many of all has.
func sized(accounts, symbols, orders int) int {
	return 36 + 61*orders + 32*accounts*symbols + 8*accounts
}

// fieldsIn bytes of which there are as many as there should be.
func fieldsIn(b []byte) fields {
	var f fields
	r := bytes.NewReader(b)
	take := func(part any) {
		if err := binary.Read(r, binary.BigEndian, part); err != nil {
			panic(err)
		}
	}
	take(&f.Head)
	n := int(f.Head.Accounts) * int(f.Head.Symbols)
	f.Lines, f.Pos = make([]line, f.Head.Orders), make([]int64, n)
	f.Limits, f.Caps = make([]api.Expo, n), make([]int64, f.Head.Accounts)
	take(f.Lines)
	take(f.Pos)
	take(f.Limits)
	take(f.Caps)
	return f
}

// state of the fields; false: there is none.
func (f fields) state() (api.State, bool) {
	s := api.State{
		Accounts: int(f.Head.Accounts), Symbols: int(f.Head.Symbols), Kill: f.Head.Kill == 1,
		Last: f.Head.Last, Seq: f.Head.Seq, Lsn: f.Head.Lsn, Limits: f.Limits, Caps: f.Caps,
	}
	ok := f.Head.Kill < 2
	for _, l := range f.Lines {
		ok = ok && l.Asked < 2
		s.Orders = append(s.Orders, api.Order{
			Id: l.Id, Account: int(l.Account), Symbol: int(l.Symbol), Side: int(l.Side), Phase: int(l.Phase), Qty: l.Qty, Price: l.Price,
			Filled: l.Filled, NewQty: l.NewQty, NewPrice: l.NewPrice, Version: l.Version, Asked: l.Asked == 1,
		})
	}
	for i, pos := range f.Pos {
		c, fits := cellOf(s.Orders, i/s.Symbols, i%s.Symbols)
		c.Pos, ok = pos, ok && fits
		s.Cells = append(s.Cells, c)
	}
	if !ok || !book.Right(s) {
		return api.State{}, false
	}
	return s, true
}

// cellOf orders of an account and a symbol; false: they make none.
func cellOf(l []api.Order, account, symbol int) (api.Cell, bool) {
	buy, sell, open := new(big.Int), new(big.Int), new(big.Int)
	for _, o := range l {
		if o.Account != account || o.Symbol != symbol {
			continue
		}
		worth, err := order.Worth(o)
		if err != api.OK {
			return api.Cell{}, false
		}
		side := buy
		if o.Side == api.Sell {
			side = sell
		}
		side.Add(side, big.NewInt(order.Open(o)))
		open.Add(open, big.NewInt(worth))
	}
	return api.Cell{Buy: buy.Int64(), Sell: sell.Int64(), Open: open.Int64()}, buy.IsInt64() && sell.IsInt64() && open.IsInt64()
}

// meant by bytes, as the chapter says.
func meant(b []byte) (api.State, api.Errno) {
	if len(b) < 36 || string(b[:4]) != "snaf" ||
		b[4] < 1 || b[4] > 8 || b[5] < 1 || b[5] > 8 || b[7] > 64 || len(b) != sized(int(b[4]), int(b[5]), int(b[7])) {
		return api.State{}, api.ErrForm
	}
	if !bytes.Equal(b, fitted(b)) {
		return api.State{}, api.ErrSum
	}
	s, ok := fieldsIn(b).state()
	if !ok {
		return api.State{}, api.ErrForm
	}
	return s, api.OK
}

// reads holds Decode against the chapter, whatever the bytes are, and answers what came of it.
func reads(t *testing.T, b []byte) (api.State, api.Errno) {
	t.Helper()
	want, wantErr := meant(b)
	room := append(bytes.Clone(b), "room behind"...)
	was := bytes.Clone(room)
	got, err := row.Decode(room[:len(b)])
	if err != wantErr || !same(got, want) {
		t.Fatalf("Decode(%x) = %+v, %d; want %+v, %d", b, got, err, want, wantErr)
	}
	if !bytes.Equal(room, was) {
		t.Fatalf("Decode(%x) changed what was handed in, or its room: %x", b, room)
	}
	return got, err
}

// none holds that bytes are no state's, for that reason.
func none(t *testing.T, what any, b []byte, want api.Errno) {
	t.Helper()
	if s, err := reads(t, b); err != want || !same(s, api.State{}) {
		t.Errorf("%v: Decode = %+v, %d; want no state, %d", what, s, err, want)
	}
}

// copied is a state with lists of its own.
func copied(s api.State) api.State {
	s.Orders, s.Cells = slices.Clone(s.Orders), slices.Clone(s.Cells)
	s.Limits, s.Caps = slices.Clone(s.Limits), slices.Clone(s.Caps)
	return s
}

// same: are all fields of two states the same, a list being nil or empty alike?
func same(a, b api.State) bool {
	return a.Accounts == b.Accounts && a.Symbols == b.Symbols &&
		slices.Equal(a.Orders, b.Orders) && slices.Equal(a.Cells, b.Cells) &&
		slices.Equal(a.Limits, b.Limits) && slices.Equal(a.Caps, b.Caps) &&
		a.Kill == b.Kill && a.Last == b.Last && a.Seq == b.Seq && a.Lsn == b.Lsn
}

// buys asks for an order to buy, of account and symbol 0.
func buys(id, qty, price int64) api.Rec {
	return api.Rec{Kind: api.New, Order: id, Side: api.Buy, Qty: qty, Price: price}
}

// sells is it with the other side.
func sells(r api.Rec) api.Rec {
	r.Side = api.Sell
	return r
}

// of is a record of another account and symbol.
func of(r api.Rec, account, symbol int) api.Rec {
	r.Account, r.Symbol = account, symbol
	return r
}

func replaces(id, qty, price int64) api.Rec {
	return api.Rec{Kind: api.Replace, Order: id, Qty: qty, Price: price}
}

func cancels(id int64) api.Rec { return api.Rec{Kind: api.Cancel, Order: id} }

func tells(seq int64, what int, id, qty, price int64) api.Rec {
	return api.Rec{Kind: api.Event, Seq: seq, What: what, Order: id, Qty: qty, Price: price}
}

// begun is a state with nothing but limits, each of them another one.
func begun(t *testing.T, accounts, symbols int) api.State {
	t.Helper()
	s, err := book.New(accounts, symbols, api.Expo{Long: 1 << 60, Short: 1 << 61, Open: 1 << 59}, 1<<62)
	if err != api.OK {
		t.Fatalf("New(%d, %d): %d", accounts, symbols, err)
	}
	for i := range s.Limits {
		s.Limits[i].Long += int64(3 * i)
		s.Limits[i].Short -= int64(5 * i)
		s.Limits[i].Open += int64(7 * i)
	}
	for i := range s.Caps {
		s.Caps[i] -= int64(11 * i)
	}
	return s
}

// does records that may be done, one behind the other.
func does(t *testing.T, s api.State, l ...api.Rec) api.State {
	t.Helper()
	for _, r := range l {
		then, err := book.Do(s, r)
		if err != api.OK {
			t.Fatalf("%+v: %d; of %+v", r, err, s)
		}
		s = then
	}
	return s
}

// busy is a state of 2 accounts and 3 symbols with orders in all phases, something pending, and something had.
func busy(t *testing.T) api.State {
	t.Helper()
	return does(t, begun(t, 2, 3),
		of(buys(3, 10, 3), 0, 1),
		of(sells(buys(5, 20, 2)), 0, 1),
		of(buys(6, 7, 7), 1, 2),
		buys(9, 4, 5),
		of(sells(buys(10, 8, 6)), 1, 2),
		tells(1, api.Ack, 3, 0, 0),
		tells(2, api.Ack, 5, 0, 0),
		tells(3, api.Ack, 10, 0, 0),
		tells(4, api.Fill, 3, 4, 0),
		tells(5, api.Fill, 10, 1, 0),
		replaces(3, 12, 2),
		cancels(5),
		api.Rec{Kind: api.Kill, On: true},
	)
}

// full is a state with as many of all as there may be.
func full(t *testing.T) api.State {
	t.Helper()
	s := begun(t, 8, 8)
	for i := range 64 {
		r := of(buys(int64(i+1)*1e10, int64(i+1)<<20, int64(i+1)<<10), i/8, i*3%8)
		if i%3 == 0 {
			r = sells(r)
		}
		s = does(t, s, r)
	}
	for i := range s.Cells {
		s.Cells[i].Pos = int64(i-32) << 40
	}
	return s
}

// outermost is a state with numbers at the ends of what there may be.
func outermost(t *testing.T) api.State {
	t.Helper()
	s := does(t, begun(t, 1, 4), buys(api.MaxId-1, 1<<58, 1), of(buys(api.MaxId, 1, 1<<58), 0, 3), tells(1, api.Ack, api.MaxId, 0, 0))
	s.Seq, s.Lsn, s.Caps[0] = api.MaxLsn, api.MaxLsn, most
	s.Limits[1], s.Limits[2] = api.Expo{Long: most, Short: most, Open: most}, api.Expo{}
	s.Cells[0].Pos, s.Cells[1].Pos, s.Cells[2].Pos = -most, most, -most
	s.Orders[1].Version = most
	return s
}

// drawn is a state to which records were drawn, and in which other things were.
func drawn(t *testing.T, draw *rand.Rand) api.State {
	t.Helper()
	s := begun(t, 1+draw.Intn(8), 1+draw.Intn(8))
	for range draw.Intn(120) {
		s, _ = book.Do(s, record(draw, s))
	}
	s.Last += draw.Int63n(3)
	for i := range s.Cells {
		if draw.Intn(4) == 0 {
			s.Cells[i].Pos = draw.Int63n(1<<40) - 1<<39
		}
	}
	return s
}

// record drawn, which may most often be done.
func record(draw *rand.Rand, s api.State) api.Rec {
	id, qty, price := s.Last+1, 1+draw.Int63n(1<<uint(1+draw.Intn(24))), 1+draw.Int63n(1<<20)
	if len(s.Orders) > 0 {
		id = s.Orders[draw.Intn(len(s.Orders))].Id
	}
	switch draw.Intn(8) {
	case 0, 1, 2:
		r := of(buys(s.Last+1+draw.Int63n(1e9), qty, price), draw.Intn(s.Accounts), draw.Intn(s.Symbols))
		if draw.Intn(2) == 0 {
			r = sells(r)
		}
		return r
	case 3:
		return replaces(id, qty, price)
	case 4:
		return cancels(id)
	case 5:
		return api.Rec{Kind: api.Kill, On: draw.Intn(5) == 0}
	case 6:
		return tells(s.Seq+1, api.Ack, id, 0, 0)
	}
	return tells(s.Seq+1, api.Fill, id, 1+draw.Int63n(9), 0)
}

// states that are right, of many kinds.
func states(t *testing.T) []api.State {
	t.Helper()
	l := []api.State{busy(t), full(t), outermost(t)}
	for accounts := 1; accounts <= 8; accounts++ {
		for symbols := 1; symbols <= 8; symbols++ {
			s := begun(t, accounts, symbols)
			l = append(l, s, does(t, s, of(buys(1, 2, 3), accounts-1, symbols-1)), does(t, s, of(sells(buys(7, 5, 9)), accounts-1, 0)))
		}
	}
	draw := rand.New(rand.NewSource(13))
	for range 300 {
		l = append(l, drawn(t, draw))
	}
	return l
}
