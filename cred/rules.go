package cred

import (
	"slices"

	"roundhouse/api"
)

// rule is what may not be, and the error that is told for it.
type rule struct {
	err   api.Errno
	holds func() bool
}

// firstThatHolds is the error of the first rule that holds.
// Those behind it are not asked, so that nodes that are too many are not gone through.
func firstThatHolds(rules []rule) api.Errno {
	for _, r := range rules {
		if r.holds() {
			return r.err
		}
	}
	return api.OK
}

// formRules are what no credential may be.
func formRules(c api.Cred) []rule {
	return []rule{
		{api.ErrArg, outside(c.Job, 0, api.MaxNum)},
		{api.ErrArg, outside(c.Epoch, 0, api.MaxEpoch)},
		{api.ErrArg, outside(c.Step, 0, api.MaxNum)},
		{api.ErrArg, outside(c.From, 0, api.MaxNum)},
		{api.ErrArg, outside(c.Until, 0, api.MaxNum)},
		{api.ErrArg, outside(c.Cores, 1, api.MaxCores)},
		{api.ErrArg, outside(len(c.Nodes), 1, api.MaxNodes)},
		{api.ErrArg, func() bool { return !areNodes(c.Nodes) }},
	}
}

// askRules are what c, which may be, does not allow.
func askRules(c api.Cred, a Ask) []rule {
	return []rule{
		{api.ErrScope, func() bool { return a.Job != c.Job || a.Epoch != c.Epoch || a.Step != c.Step }},
		{api.ErrScope, func() bool { return !slices.Contains(c.Nodes, a.Node) }},
		{api.ErrScope, outside(a.Cores, 1, c.Cores)},
		{api.ErrTime, func() bool { return a.Now < c.From || a.Now >= c.Until }},
	}
}

// outside tells whether n is not least to most.
func outside(n, least, most int) func() bool {
	return func() bool { return n < least || n > most }
}

// areNodes says whether all of l are nodes, rising, none twice.
func areNodes(l []int) bool {
	last := -1
	for _, n := range l {
		if n <= last || n >= api.MaxNodes {
			return false
		}
		last = n
	}
	return true
}
