package book

import (
	"slices"

	"snaffle/api"
	"snaffle/cell"
	"snaffle/limit"
	"snaffle/order"
)

// maySize a state so?
func maySize(accounts, symbols int) bool {
	return accounts >= 1 && accounts <= api.MaxAccounts && symbols >= 1 && symbols <= api.MaxSymbols
}

// mayCount so: the state's parts, and its numbers?
func mayCount(s api.State) bool {
	n := s.Accounts * s.Symbols
	return len(s.Cells) == n && len(s.Limits) == n && len(s.Caps) == s.Accounts && len(s.Orders) <= api.MaxOrders &&
		s.Last >= 0 && s.Last <= api.MaxId &&
		s.Seq >= 0 && s.Seq <= api.MaxLsn &&
		s.Lsn >= 0 && s.Lsn <= api.MaxLsn
}

// mayBound so what is asked for?
func mayBound(s api.State) bool {
	for _, l := range s.Limits {
		if !limit.Right(l) {
			return false
		}
	}
	for _, c := range s.Caps {
		if c < 0 {
			return false
		}
	}
	return true
}

// mayHold those orders, one behind the other?
func mayHold(s api.State) bool {
	before := int64(0)
	for _, o := range s.Orders {
		if !order.Right(o) || o.Phase == api.Done || Place(s, o.Account, o.Symbol) == api.None || o.Id <= before {
			return false
		}
		before = o.Id
	}
	return before <= s.Last
}

// inStep: is each cell right, and what its orders make of it?
func inStep(s api.State) bool {
	made := make([]api.Cell, len(s.Cells))
	for i, c := range s.Cells {
		if !cell.Right(c) {
			return false
		}
		// What an account has isn't told by its orders.
		made[i].Pos = c.Pos
	}
	for _, o := range s.Orders {
		at := Place(s, o.Account, o.Symbol)
		var err api.Errno
		made[at], err = cell.Come(made[at], o)
		if err != api.OK {
			return false
		}
	}
	return slices.Equal(made, s.Cells)
}

// mayOpen so much, each account?
func mayOpen(s api.State) bool {
	for account := range s.Accounts {
		if _, err := limit.Whole(cellsOf(s, account)); err != api.OK {
			return false
		}
	}
	return true
}
