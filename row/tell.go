package row

import (
	"math/bits"

	"snaffle/api"
	"snaffle/crc"
)

// mark is what a state's bytes begin with.
const mark = "snaf"

// How many bytes each part of a state has: what stands ahead of the orders, an order, a position, a limit, a cap, the sum.
const (
	headSize  = 32
	orderSize = 61
	posSize   = 8
	limitSize = 24
	capSize   = 8
	sumSize   = 4
)

// Where the counts stand by which it is known how many bytes there should be.
const (
	accountsAt = 4
	symbolsAt  = 5
	ordersAt   = 7
)

// number of whatever kind a state's bytes have.
type number interface{ int | int64 | uint32 }

// sizeOf the bytes of a state of so many of all.
func sizeOf(accounts, symbols, orders int) int {
	return headSize + orders*orderSize + accounts*symbols*(posSize+limitSize) + accounts*capSize + sumSize
}

// told is a state that is right, as bytes without their sum, for which there is room.
func told(s api.State) []byte {
	b := make([]byte, 0, sizeOf(s.Accounts, s.Symbols, len(s.Orders)))
	b = append(b, mark...)
	b = put(b, 1, s.Accounts, s.Symbols, flag(s.Kill), len(s.Orders))
	b = put(b, 8, s.Last, s.Seq, s.Lsn)
	for _, o := range s.Orders {
		b = put(b, 8, o.Id)
		b = put(b, 1, o.Account, o.Symbol, o.Side, o.Phase)
		b = put(b, 8, o.Qty, o.Price, o.Filled, o.NewQty, o.NewPrice, o.Version)
		b = put(b, 1, flag(o.Asked))
	}
	for _, c := range s.Cells {
		b = put(b, 8, c.Pos)
	}
	for _, l := range s.Limits {
		b = put(b, 8, l.Long, l.Short, l.Open)
	}
	return put(b, 8, s.Caps...)
}

// put numbers behind bytes, each with its highest byte first, in size bytes.
func put[N number](b []byte, size int, l ...N) []byte {
	for _, n := range l {
		for i := range size {
			b = append(b, byte(n>>(8*(size-1-i))))
		}
	}
	return b
}

// flag is 1 for what is on.
func flag(on bool) int {
	if on {
		return 1
	}
	return 0
}

// sumOf bytes. Its lowest byte stands first, since only so a change within four bytes, some of them the sum's
// own, never makes bytes that fit.
func sumOf(b []byte) []byte {
	return put(nil, sumSize, bits.ReverseBytes32(crc.Sum(b)))
}
