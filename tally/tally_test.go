package tally_test

import (
	"math"
	"slices"
	"testing"

	"roundhouse/api"
	"roundhouse/tally"
)

// look fails unless the tally is as it is wanted.
func look(t *testing.T, x *tally.Tally, state, code int, missing ...int) {
	t.Helper()
	if x.State() != state || x.Code() != code || !slices.Equal(x.Missing(), missing) {
		t.Errorf("P14.2: State %d, Code %d, Missing %v, want %d, %d, %v", x.State(), x.Code(), x.Missing(), state, code, missing)
	}
}

// vote fails unless the vote is answered as it is wanted.
func vote(t *testing.T, x *tally.Tally, node int, yes bool, want api.Errno) {
	t.Helper()
	if e := x.Vote(node, yes); e != want {
		t.Errorf("P14.1: Vote(%d, %v) = %d, want %d", node, yes, e, want)
	}
}

// exit fails unless the exit is answered as it is wanted.
func exit(t *testing.T, x *tally.Tally, node, code int, want api.Errno) {
	t.Helper()
	if e := x.Exit(node, code); e != want {
		t.Errorf("P14.2: Exit(%d, %d) = %d, want %d", node, code, e, want)
	}
}

// allYes is a tally of nodes that have all voted yes.
func allYes(t *testing.T, nodes ...int) *tally.Tally {
	t.Helper()
	x := tally.New(nodes)
	for _, n := range nodes {
		vote(t, x, n, true, api.OK)
	}
	return x
}

func TestConstants(t *testing.T) {
	if tally.Open != 0 || tally.Go != 1 || tally.Refused != 2 || tally.Ended != 3 {
		t.Error("P14.1: the states' numbers")
	}
}

func TestNew(t *testing.T) {
	all := []int{0, 1, 2, 3, 4, 5, 6, 7, 8, 9, 10, 11, 12, 13, 14, 15}
	for _, nodes := range [][]int{{0}, {15}, {7}, {0, 15}, {3, 4, 9}, all} {
		x := tally.New(nodes)
		if x == nil {
			t.Fatalf("P14.1: New(%v) = nil", nodes)
		}
		look(t, x, tally.Open, 0, nodes...)
	}
	for _, nodes := range [][]int{
		nil, {}, {-1}, {16}, {math.MinInt}, {math.MaxInt}, {0, 16}, {-1, 0}, {0, 0}, {15, 15}, {1, 0}, {0, 2, 1}, {0, 2, 2},
		{5, math.MinInt}, append(slices.Clone(all), 16), append(slices.Clone(all), 15), slices.Repeat([]int{3}, 1000),
	} {
		if tally.New(nodes) != nil {
			t.Errorf("P14.1: New(%v) is not nil", nodes)
		}
	}
}

func TestVotes(t *testing.T) {
	x := tally.New([]int{2, 5, 9})
	vote(t, x, 5, true, api.OK)
	look(t, x, tally.Open, 0, 2, 9)
	vote(t, x, 5, true, api.OK)
	vote(t, x, 5, false, api.ErrState)
	look(t, x, tally.Open, 0, 2, 9)
	for _, n := range []int{-1, 0, 3, 10, 15, 16, math.MinInt, math.MaxInt} {
		vote(t, x, n, true, api.ErrArg)
		vote(t, x, n, false, api.ErrArg)
	}
	look(t, x, tally.Open, 0, 2, 9)
	vote(t, x, 9, true, api.OK)
	look(t, x, tally.Open, 0, 2)
	vote(t, x, 2, true, api.OK)
	look(t, x, tally.Go, 0, 2, 5, 9)
	for _, n := range []int{2, 5, 9} {
		vote(t, x, n, true, api.OK)
		vote(t, x, n, false, api.ErrState)
	}
	vote(t, x, 3, true, api.ErrArg)
	look(t, x, tally.Go, 0, 2, 5, 9)
}

// TestRefused has a no ahead of the others' votes, and behind them.
func TestRefused(t *testing.T) {
	first := tally.New([]int{0, 1, 2})
	vote(t, first, 1, false, api.OK)
	look(t, first, tally.Refused, 0)
	vote(t, first, 1, false, api.OK)
	vote(t, first, 1, true, api.ErrState)
	vote(t, first, 0, true, api.ErrState)
	vote(t, first, 0, false, api.ErrState)
	vote(t, first, 2, true, api.ErrState)
	vote(t, first, 3, true, api.ErrArg)
	look(t, first, tally.Refused, 0)

	last := tally.New([]int{0, 1, 2})
	vote(t, last, 0, true, api.OK)
	vote(t, last, 2, true, api.OK)
	vote(t, last, 1, false, api.OK)
	look(t, last, tally.Refused, 0)
	vote(t, last, 0, true, api.OK)
	vote(t, last, 0, false, api.ErrState)
	vote(t, last, 1, false, api.OK)
	for _, n := range []int{0, 1, 2} {
		exit(t, last, n, 0, api.ErrState)
		exit(t, last, n, 256, api.ErrArg)
	}
	exit(t, last, 3, 0, api.ErrArg)
	look(t, last, tally.Refused, 0)

	one := tally.New([]int{15})
	vote(t, one, 15, false, api.OK)
	look(t, one, tally.Refused, 0)
}

func TestExits(t *testing.T) {
	x := tally.New([]int{0, 4})
	// Nobody exits ahead of all votes.
	exit(t, x, 0, 0, api.ErrState)
	exit(t, x, 0, 256, api.ErrArg)
	vote(t, x, 0, true, api.OK)
	exit(t, x, 0, 0, api.ErrState)
	look(t, x, tally.Open, 0, 4)
	vote(t, x, 4, true, api.OK)

	for _, c := range []int{-1, 256, math.MinInt, math.MaxInt} {
		exit(t, x, 0, c, api.ErrArg)
		exit(t, x, 3, c, api.ErrArg)
	}
	for _, n := range []int{-1, 1, 3, 16, math.MinInt, math.MaxInt} {
		exit(t, x, n, 0, api.ErrArg)
	}
	look(t, x, tally.Go, 0, 0, 4)
	exit(t, x, 4, 0, api.OK)
	look(t, x, tally.Go, 0, 0)
	exit(t, x, 4, 0, api.OK)
	exit(t, x, 4, 1, api.ErrState)
	exit(t, x, 4, 256, api.ErrArg)
	look(t, x, tally.Go, 0, 0)
	exit(t, x, 0, 255, api.OK)
	look(t, x, tally.Ended, 255)

	// What was said is said again, and nothing else.
	exit(t, x, 4, 0, api.OK)
	exit(t, x, 0, 255, api.OK)
	exit(t, x, 0, 0, api.ErrState)
	exit(t, x, 0, 256, api.ErrArg)
	exit(t, x, 1, 0, api.ErrArg)
	vote(t, x, 0, true, api.OK)
	vote(t, x, 4, false, api.ErrState)
	vote(t, x, 1, true, api.ErrArg)
	look(t, x, tally.Ended, 255)
}

func TestCode(t *testing.T) {
	for i, c := range []struct {
		codes []int
		want  int
	}{
		{[]int{0, 0, 0}, 0}, {[]int{1, 0, 0}, 1}, {[]int{0, 1, 0}, 1}, {[]int{0, 0, 1}, 1},
		{[]int{137, 9, 137}, 137}, {[]int{9, 137, 143}, 143}, {[]int{255, 254, 0}, 255},
	} {
		x := allYes(t, 1, 6, 14)
		for j, n := range []int{1, 6, 14} {
			if x.Code() != 0 {
				t.Errorf("P14.2: case %d: Code = %d ahead of the end", i, x.Code())
			}
			exit(t, x, n, c.codes[j], api.OK)
		}
		look(t, x, tally.Ended, c.want)
	}
}

func TestWorst(t *testing.T) {
	for _, c := range []struct {
		l    []int
		want int
	}{
		{nil, 0}, {[]int{}, 0}, {[]int{0}, 0}, {[]int{5}, 5}, {[]int{-5}, -5}, {[]int{1, 2, 3}, 3}, {[]int{3, 2, 1}, 3}, {[]int{1, 3, 2}, 3},
		{[]int{4, 4, 4}, 4}, {[]int{-3, -2, -9}, -2}, {[]int{math.MinInt}, math.MinInt}, {[]int{math.MinInt, math.MaxInt, 0}, math.MaxInt}, {[]int{255, 256, 1000}, 1000},
	} {
		l := slices.Clone(c.l)
		if n := tally.Worst(l); n != c.want || !slices.Equal(l, c.l) {
			t.Errorf("P14.3: Worst(%v) = %d, want %d; it is %v now", c.l, n, c.want, l)
		}
	}
}

func TestNil(t *testing.T) {
	// One that New did not make is of no nodes: nobody was asked, so that it does not go.
	for _, x := range []*tally.Tally{nil, {}} {
		vote(t, x, 0, true, api.ErrArg)
		vote(t, x, 0, false, api.ErrArg)
		exit(t, x, 0, 0, api.ErrArg)
		look(t, x, tally.Open, 0)
	}
}

// TestApart asks whether what is handed in stays as it is and is not kept, and what is answered is nobody else's.
func TestApart(t *testing.T) {
	nodes := []int{1, 2, 3}
	x := tally.New(nodes)
	if !slices.Equal(nodes, []int{1, 2, 3}) {
		t.Errorf("R5: %v", nodes)
	}
	nodes[0] = 9
	look(t, x, tally.Open, 0, 1, 2, 3)
	vote(t, x, 9, true, api.ErrArg)
	x.Missing()[0] = 9
	look(t, x, tally.Open, 0, 1, 2, 3)
	for _, n := range []int{1, 2, 3} {
		vote(t, x, n, true, api.OK)
	}
	x.Missing()[0] = 9
	look(t, x, tally.Go, 0, 1, 2, 3)

	// Two tallies of the same nodes have nothing in common.
	y := tally.New([]int{1, 2, 3})
	look(t, y, tally.Open, 0, 1, 2, 3)
	vote(t, y, 2, false, api.OK)
	look(t, y, tally.Refused, 0)
	look(t, x, tally.Go, 0, 1, 2, 3)
}
