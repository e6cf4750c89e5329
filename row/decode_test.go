package row_test

import (
	"bytes"
	"math"
	"math/rand"
	"slices"
	"testing"

	"snaffle/api"
	"snaffle/book"
	"snaffle/row"
)

// encoded is a state's bytes.
func encoded(t *testing.T, s api.State) []byte {
	t.Helper()
	b, err := row.Encode(s)
	if err != api.OK {
		t.Fatalf("Encode(%+v): %d", s, err)
	}
	return b
}

// P13.2: other than just as many bytes are no state's, whatever they begin with, and whether or not a sum fits.
func TestDecodeLength(t *testing.T) {
	none(t, "nil", nil, api.ErrForm)
	none(t, "many", make([]byte, 1<<20), api.ErrForm)
	for _, s := range []api.State{begun(t, 1, 1), busy(t)} {
		b := encoded(t, s)
		for i := range b {
			none(t, i, b[:i], api.ErrForm)
			none(t, -i, b[i+1:], api.ErrForm)
			none(t, len(b)+i, append(bytes.Clone(b), b[:i+1]...), api.ErrForm)
			if i >= 4 {
				none(t, i, fitted(b[:i]), api.ErrForm)
			}
		}
		none(t, "behind nothing", append([]byte{0}, b...), api.ErrForm)
		none(t, "one more, and a sum", fitted(append(bytes.Clone(b), 0)), api.ErrForm)
		none(t, "many more", append(bytes.Clone(b), make([]byte, 9000)...), api.ErrForm)
	}
}

// P13.2: fewer than 36 are ErrForm, though nothing of accounts and symbols would be there.
func TestDecodeFew(t *testing.T) {
	for n := range 37 {
		b := make([]byte, n)
		copy(b, "snaf")
		none(t, n, b, api.ErrForm)
		copy(b, "snaf\x01\x01")
		none(t, n, b, api.ErrForm)
		if n >= 4 {
			none(t, n, fitted(b), api.ErrForm)
		}
	}
}

// P13.2: ErrForm where the first four are others, ahead of the sum.
func TestDecodeMark(t *testing.T) {
	for i := range 4 {
		for c := 1; c < 256; c++ {
			b := encoded(t, begun(t, 1, 1))
			b[i] ^= byte(c)
			none(t, i, b, api.ErrForm)
			none(t, i, fitted(b), api.ErrForm)
		}
	}
}

// filled are bytes of so many of all, with a sum that fits, or not.
func filled(accounts, symbols, orders int, fits bool) []byte {
	b := make([]byte, sized(accounts, symbols, orders))
	copy(b, []byte{'s', 'n', 'a', 'f', byte(accounts), byte(symbols), 0, byte(orders)})
	b = fitted(b)
	if !fits {
		b[len(b)-1] ^= 0x40
	}
	return b
}

// P13.2: ErrForm where there would be other than 1 to 8 accounts or symbols, or more than 64 orders, ahead of the sum.
func TestDecodeCounts(t *testing.T) {
	for _, fits := range []bool{true, false} {
		for _, x := range [][3]int{
			{0, 1, 0}, {1, 0, 0}, {0, 0, 0}, {9, 1, 0}, {1, 9, 0}, {9, 9, 0}, {255, 1, 0}, {1, 255, 0}, {128, 1, 3}, {1, 16, 0}, {0, 8, 3}, {8, 0, 3},
			{1, 1, 65}, {8, 8, 65}, {1, 1, 66}, {2, 1, 128}, {1, 1, 255}, {8, 8, 255},
		} {
			none(t, x, filled(x[0], x[1], x[2], fits), api.ErrForm)
		}
	}
	for accounts := 1; accounts <= 8; accounts++ {
		for symbols := 1; symbols <= 8; symbols++ {
			none(t, "a sum that doesn't fit", filled(accounts, symbols, 64, false), api.ErrSum)
			none(t, "orders that are none", filled(accounts, symbols, 64, true), api.ErrForm)
			if s, err := reads(t, filled(accounts, symbols, 0, true)); err != api.OK || s.Accounts != accounts || s.Symbols != symbols {
				t.Errorf("%d accounts, %d symbols: %+v, %d", accounts, symbols, s, err)
			}
		}
	}
}

// P13.2: other counts than the bytes have are ErrForm, though the sum fits; where there would be as many bytes, they
// are read by these counts.
func TestDecodeOtherCounts(t *testing.T) {
	whole := encoded(t, begun(t, 7, 2))
	otherwise := 0
	for accounts := range 10 {
		for symbols := range 10 {
			for orders := range 70 {
				b := bytes.Clone(whole)
				b[4], b[5], b[7] = byte(accounts), byte(symbols), byte(orders)
				_, err := reads(t, fitted(b))
				if err == api.OK && (accounts != 7 || symbols != 2) {
					otherwise++
				}
			}
		}
	}
	// 3 accounts and 5 symbols have as many bytes as 7 and 2.
	if otherwise != 1 {
		t.Errorf("%d other counts", otherwise)
	}
}

// P13.2: ErrSum where the sum doesn't fit, ahead of whether there is such a state.
func TestDecodeSum(t *testing.T) {
	wrong := fieldsOf(busy(t))
	wrong.Caps[0] = -1
	for _, whole := range [][]byte{encoded(t, busy(t)), wrong.bytes()} {
		for i := 8; i < len(whole); i++ {
			for bit := range 8 {
				b := bytes.Clone(whole)
				b[i] ^= 1 << bit
				none(t, i, b, api.ErrSum)
			}
		}
		b := bytes.Clone(whole)
		for c := 1; c < 256; c++ {
			b[6] = byte(c)
			if c != 1 {
				none(t, "the switch", b, api.ErrSum)
			}
		}
		b = bytes.Clone(whole)
		slices.Reverse(b[len(b)-4:])
		none(t, "the sum turned about", b, api.ErrSum)
	}
}

// P13.2: ErrForm where the sum fits, but there is no such state, by one of its parts each.
func TestDecodeWrong(t *testing.T) {
	for name, spoils := range map[string]func(f *fields){
		"the switch is 2":          func(f *fields) { f.Head.Kill = 2 },
		"the switch is 3":          func(f *fields) { f.Head.Kill = 3 },
		"the switch is 255":        func(f *fields) { f.Head.Kill = 255 },
		"asked is 2":               func(f *fields) { f.Lines[1].Asked = 2 },
		"asked is 255":             func(f *fields) { f.Lines[4].Asked = 255 },
		"last below an order's":    func(f *fields) { f.Head.Last = 9 },
		"last below 0":             func(f *fields) { f.Head.Last = -1 },
		"last above all":           func(f *fields) { f.Head.Last = api.MaxId + 1 },
		"seq below 0":              func(f *fields) { f.Head.Seq = least },
		"seq above all":            func(f *fields) { f.Head.Seq = api.MaxLsn + 1 },
		"lsn below 0":              func(f *fields) { f.Head.Lsn = -1 },
		"lsn above all":            func(f *fields) { f.Head.Lsn = api.MaxLsn + 1 },
		"no number":                func(f *fields) { f.Lines[0].Id = 0 },
		"a number that falls":      func(f *fields) { f.Lines[1].Id = 2 },
		"one number for two":       func(f *fields) { f.Lines[1].Id = 3 },
		"orders turned about":      func(f *fields) { f.Lines[0], f.Lines[1] = f.Lines[1], f.Lines[0] },
		"of no account of these":   func(f *fields) { f.Lines[0].Account = 2 },
		"of no account":            func(f *fields) { f.Lines[0].Account = 8 },
		"of the account 255":       func(f *fields) { f.Lines[0].Account = 255 },
		"of no symbol of these":    func(f *fields) { f.Lines[0].Symbol = 3 },
		"of the symbol 255":        func(f *fields) { f.Lines[0].Symbol = 255 },
		"no side":                  func(f *fields) { f.Lines[0].Side = 0 },
		"the side 3":               func(f *fields) { f.Lines[0].Side = 3 },
		"no phase":                 func(f *fields) { f.Lines[0].Phase = 0 },
		"done":                     func(f *fields) { f.Lines[1].Phase = api.Done },
		"the phase 4":              func(f *fields) { f.Lines[1].Phase = 4 },
		"sent, and done some":      func(f *fields) { f.Lines[4].Phase = api.Sent },
		"no quantity":              func(f *fields) { f.Lines[2].Qty = 0 },
		"a quantity below 0":       func(f *fields) { f.Lines[2].Qty = -7 },
		"no price":                 func(f *fields) { f.Lines[2].Price = 0 },
		"all done":                 func(f *fields) { f.Lines[0].Filled = 10 },
		"done below 0":             func(f *fields) { f.Lines[0].Filled = -1 },
		"no new price":             func(f *fields) { f.Lines[0].NewPrice = 0 },
		"no new quantity":          func(f *fields) { f.Lines[0].NewQty = 0 },
		"a version below 0":        func(f *fields) { f.Lines[0].Version = -1 },
		"too much worth":           func(f *fields) { f.Lines[2].Price = most },
		"too much worth, pending":  func(f *fields) { f.Lines[0].NewPrice = most },
		"too much in a cell":       func(f *fields) { f.Lines[2].Qty, f.Lines[2].Price = 1, most },
		"too much of an account":   func(f *fields) { f.Lines[0].NewPrice = 1 << 59; f.Lines[3].Price = 1 << 61 },
		"too long":                 func(f *fields) { f.Pos[1] = most - 7 },
		"too short":                func(f *fields) { f.Pos[1] = -most + 19 },
		"too long where none is":   func(f *fields) { f.Pos[2] = least },
		"long below 0":             func(f *fields) { f.Limits[0].Long = -1 },
		"short below 0":            func(f *fields) { f.Limits[3].Short = least },
		"open below 0":             func(f *fields) { f.Limits[5].Open = -1 },
		"a cap below 0":            func(f *fields) { f.Caps[0] = -1 },
		"the last cap is below 0":  func(f *fields) { f.Caps[1] = least },
		"noughts where orders are": func(f *fields) { clear(f.Lines) },
	} {
		f := fieldsOf(busy(t))
		spoils(&f)
		none(t, name, f.bytes(), api.ErrForm)
	}
}

// P13.2: what may be otherwise is read as it is, the cells made of the orders.
func TestDecodeRight(t *testing.T) {
	for name, change := range map[string]func(f *fields){
		"busy":                   func(f *fields) {},
		"the switch is off":      func(f *fields) { f.Head.Kill = 0 },
		"last":                   func(f *fields) { f.Head.Last = api.MaxId },
		"seq":                    func(f *fields) { f.Head.Seq = api.MaxLsn },
		"lsn":                    func(f *fields) { f.Head.Lsn = 0 },
		"another account":        func(f *fields) { f.Lines[0].Account = 1 },
		"another symbol":         func(f *fields) { f.Lines[2].Symbol = 0 },
		"another side":           func(f *fields) { f.Lines[2].Side = api.Sell },
		"another quantity":       func(f *fields) { f.Lines[2].Qty = 1 << 40 },
		"another price":          func(f *fields) { f.Lines[0].NewPrice = 1 << 59 },
		"nothing pending":        func(f *fields) { f.Lines[0].NewQty, f.Lines[0].NewPrice = 0, 0 },
		"live":                   func(f *fields) { f.Lines[2].Phase = api.Live },
		"a version":              func(f *fields) { f.Lines[0].Version = most },
		"not asked":              func(f *fields) { f.Lines[1].Asked = 0 },
		"asked":                  func(f *fields) { f.Lines[0].Asked = 1 },
		"long as much as it may": func(f *fields) { f.Pos[1] = most - 8 },
		"short likewise":         func(f *fields) { f.Pos[1] = -most + 20 },
		"limits of 0":            func(f *fields) { clear(f.Limits) },
		"caps of 0":              func(f *fields) { clear(f.Caps) },
		"the greatest cap":       func(f *fields) { f.Caps[1] = most },
	} {
		f := fieldsOf(busy(t))
		change(&f)
		s, err := reads(t, f.bytes())
		if err != api.OK || !book.Right(s) {
			t.Errorf("%s: %+v, %d", name, s, err)
		}
	}
}

// odd is a number on one side or the other of a border.
func odd(draw *rand.Rand) int64 {
	l := []int64{
		least, -1, 0, 1, 2, 3, 4, 8, 9, 64, 255, api.MaxLsn, api.MaxLsn + 1, api.MaxId, api.MaxId + 1, 1 << 31, 1 << 61, 1 << 62, most - 1, most,
	}
	return l[draw.Intn(len(l))]
}

// spoilt is one number of the fields drawn otherwise.
func spoilt(draw *rand.Rand, f fields) {
	great := []*int64{&f.Head.Last, &f.Head.Seq, &f.Head.Lsn}
	small := []*uint8{&f.Head.Kill}
	for range 3 {
		l, n := &f.Limits[draw.Intn(len(f.Limits))], draw.Intn(len(f.Pos))
		great = append(great, &l.Long, &l.Short, &l.Open, &f.Pos[n], &f.Pos[n], &f.Caps[draw.Intn(len(f.Caps))])
	}
	if len(f.Lines) > 0 {
		for range 2 {
			l := &f.Lines[draw.Intn(len(f.Lines))]
			great = append(great, &l.Id, &l.Qty, &l.Price, &l.Filled, &l.NewQty, &l.NewPrice, &l.Version)
			small = append(small, &l.Account, &l.Symbol, &l.Side, &l.Phase, &l.Asked)
		}
	}
	if n := draw.Intn(len(great) + len(small)); n < len(great) {
		*great[n] = odd(draw)
	} else {
		*small[n-len(great)] = uint8(odd(draw))
	}
}

// P13.2: whatever one number becomes, of whatever state, the bytes are those of a state or of none as the chapter says.
func TestDecodeNearlyRight(t *testing.T) {
	draw := rand.New(rand.NewSource(14))
	errs := map[api.Errno]int{}
	for range 300 {
		s := drawn(t, draw)
		for range 60 {
			f := fieldsIn(fieldsOf(s).bytes())
			spoilt(draw, f)
			_, err := reads(t, f.bytes())
			errs[err]++
		}
	}
	if errs[api.OK] < 3000 || errs[api.ErrForm] < 3000 {
		t.Errorf("how often each: %v", errs)
	}
}

// Rule 1, P13.2: any bytes whatever are a state's or none as the chapter says; no call panics.
func TestDecodeAny(t *testing.T) {
	draw := rand.New(rand.NewSource(15))
	errs := map[api.Errno]int{}
	for range 20000 {
		b := filled(1+draw.Intn(8), 1+draw.Intn(8), draw.Intn(4), true)
		for range draw.Intn(9) {
			b[draw.Intn(len(b))] = byte(draw.Intn(256))
		}
		if draw.Intn(4) == 0 {
			draw.Read(b[8:])
		}
		if draw.Intn(8) > 0 {
			b = fitted(b)
		}
		if draw.Intn(16) == 0 {
			b = b[:draw.Intn(len(b))]
		}
		_, err := reads(t, b)
		errs[err]++
	}
	for _, err := range []api.Errno{api.OK, api.ErrForm, api.ErrSum} {
		if errs[err] < 1000 {
			t.Errorf("how often each: %v", errs)
		}
	}
	for range 2000 {
		b := make([]byte, draw.Intn(200))
		draw.Read(b)
		reads(t, b)
	}
}

// P13.2: what was read is new memory, its lists with room of their own.
func TestDecodeMemory(t *testing.T) {
	for _, want := range states(t) {
		b := encoded(t, want)
		s, err := row.Decode(b)
		clear(b)
		if err != api.OK || !same(s, want) {
			t.Fatalf("Decode = %+v, %d; want %+v", s, err, want)
		}
		s = wholly(s)
		for i := range s.Orders {
			s.Orders[i] = api.Order{Id: math.MinInt64}
		}
		for i := range s.Caps {
			s.Caps[i] = -4
		}
		if !slices.Equal(s.Cells[:len(want.Cells)], want.Cells) || !slices.Equal(s.Limits[:len(want.Limits)], want.Limits) {
			t.Fatalf("lists share memory: %+v; want %+v", s, want)
		}
		if !slices.Equal(b, make([]byte, len(b))) {
			t.Fatal("the bytes are a part of the state")
		}
	}
}
