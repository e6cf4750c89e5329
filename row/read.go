package row

import (
	"snaffle/api"
	"snaffle/book"
	"snaffle/cell"
)

// rest is what isn't read yet of a state's bytes; who reads asks for no more than there are.
type rest struct{ b []byte }

// next number, of size bytes, its highest byte first.
func (r *rest) next(size int) int64 {
	n := uint64(0)
	for i := range size {
		n = n<<8 | uint64(r.b[i])
	}
	r.b = r.b[size:]
	return int64(n)
}

// small number, of one byte.
func (r *rest) small() int { return int(r.next(1)) }

// great number, of eight.
func (r *rest) great() int64 { return r.next(8) }

// order that is next.
func (r *rest) order() api.Order {
	return api.Order{
		Id:      r.great(),
		Account: r.small(), Symbol: r.small(), Side: r.small(), Phase: r.small(),
		Qty: r.great(), Price: r.great(), Filled: r.great(),
		NewQty: r.great(), NewPrice: r.great(), Version: r.great(),
		Asked: r.small() == 1,
	}
}

// mayBe a state's bytes, by what they begin with, and by how many there are?
func mayBe(b []byte) bool {
	if len(b) < headSize+sumSize || string(b[:len(mark)]) != mark {
		return false
	}
	accounts, symbols, orders := int(b[accountsAt]), int(b[symbolsAt]), int(b[ordersAt])
	return accounts >= 1 && accounts <= api.MaxAccounts && symbols >= 1 && symbols <= api.MaxSymbols &&
		orders <= api.MaxOrders && len(b) == sizeOf(accounts, symbols, orders)
}

// read a state from as many bytes as it should have, without their sum. It needn't be right.
func read(b []byte) api.State {
	r := &rest{b[len(mark):]}
	s := api.State{Accounts: r.small(), Symbols: r.small(), Kill: r.small() == 1}
	orders := r.small()
	s.Last, s.Seq, s.Lsn = r.great(), r.great(), r.great()
	for range orders {
		s.Orders = append(s.Orders, r.order())
	}
	for range s.Accounts * s.Symbols {
		s.Cells = append(s.Cells, api.Cell{Pos: r.great()})
	}
	for range s.Accounts * s.Symbols {
		s.Limits = append(s.Limits, api.Expo{Long: r.great(), Short: r.great(), Open: r.great()})
	}
	for range s.Accounts {
		s.Caps = append(s.Caps, r.great())
	}
	comeAll(s)
	return s
}

// comeAll orders of a state to its cells: the bytes have no more of a cell than its position.
func comeAll(s api.State) {
	for _, o := range s.Orders {
		at := book.Place(s, o.Account, o.Symbol)
		if at == api.None {
			continue
		}
		// Where an order can't come, its cell isn't what its orders make of it, and the state not right.
		s.Cells[at], _ = cell.Come(s.Cells[at], o)
	}
}
