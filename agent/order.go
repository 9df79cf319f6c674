package agent

import (
	"roundhouse/api"
	"roundhouse/wire"
)

const (
	maxCred  = 400     // bytes of an order's credential
	maxLimit = 1 << 30 // of an order
)

// Order is how a step is to be launched.
type Order struct {
	Cred  string
	Ranks int
	Per   int
	Dist  int
	Limit int
}

// Pack is the bytes of o.
func Pack(o Order) string {
	if !mayBe(o) {
		return ""
	}
	out := wire.Text(o.Cred)
	for _, n := range [4]int{o.Ranks, o.Per, o.Dist, o.Limit} {
		out += wire.Num(n)
	}
	return out
}

// Unpack is the order whose bytes s is.
func Unpack(s string) (Order, api.Errno) {
	r := wire.Read(s)
	o := Order{
		Cred:  r.Text(),
		Ranks: r.Num(),
		Per:   r.Num(),
		Dist:  r.Num(),
		Limit: r.Num(),
	}
	if e, _ := r.End(); e != api.OK {
		return Order{}, e
	}
	// There is one way to write what the reader takes, so that s is the bytes of o.
	if !mayBe(o) {
		return Order{}, api.ErrForm
	}
	return o, api.OK
}

// mayBe says whether o may be.
func mayBe(o Order) bool {
	return len(o.Cred) <= maxCred && isWithin(o.Ranks, 1, api.MaxRanks) && isWithin(o.Per, 1, api.MaxCores) &&
		isWithin(o.Dist, api.Block, api.Cyclic) && isWithin(o.Limit, 1, maxLimit)
}

// isWithin says whether n is least to most.
func isWithin(n, least, most int) bool {
	return least <= n && n <= most
}
