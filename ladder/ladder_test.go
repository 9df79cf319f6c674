package ladder_test

import (
	"math"
	"slices"
	"testing"

	"roundhouse/api"
	"roundhouse/ladder"
)

const span = 1 << 30

var (
	plan    = ladder.Plan{Limit: 10, Warn: 2, Grace: 3, Kill: 5}
	noRungs = [5]int{-1, -1, -1, -1, -1}
)

// mayNot checks that nothing is told of p and r.
func mayNot(t *testing.T, p ladder.Plan, r ladder.Run) {
	t.Helper()
	if end := ladder.End(p, r); end != -1 {
		t.Errorf("P10.1: End(%v, %v): %d", p, r, end)
	}
	if rungs := ladder.Rungs(p, r); rungs != noRungs {
		t.Errorf("P10.2: Rungs(%v, %v): %v", p, r, rungs)
	}
	for _, now := range []int{math.MinInt, -2, -1, 0, 1, 99, api.MaxNum, math.MaxInt} {
		if stage := ladder.Stage(p, r, now); stage != -1 {
			t.Errorf("P10.2: Stage(%v, %v, %d): %d", p, r, now, stage)
		}
		for _, from := range []int{math.MinInt, -2, -1, 0, 50} {
			if stages := ladder.Between(p, r, from, now); len(stages) != 0 {
				t.Errorf("P10.3: Between(%v, %v, %d, %d): %v", p, r, from, now, stages)
			}
		}
	}
}

func TestCheck(t *testing.T) {
	for i, p := range []ladder.Plan{
		{Limit: 1}, {Limit: 1, Warn: 1}, {Limit: span}, {Limit: span, Warn: span},
		{Limit: 5, Warn: 5}, {Limit: 5, Grace: span}, {Limit: 5, Kill: span},
		{Limit: span, Warn: span, Grace: span, Kill: span}, plan,
	} {
		if e := ladder.Check(p); e != api.OK {
			t.Errorf("P10.1: case %d: %d", i, e)
		}
		if end := ladder.End(p, ladder.Run{Cancel: -1}); end != p.Limit {
			t.Errorf("P10.1: case %d: End: %d", i, end)
		}
	}
	for i, p := range []ladder.Plan{
		{}, {Limit: -1}, {Limit: span + 1}, {Limit: math.MaxInt}, {Limit: math.MinInt}, {Limit: 1<<32 + 1},
		{Limit: 5, Warn: 6}, {Limit: 5, Warn: -1}, {Limit: 5, Warn: math.MaxInt}, {Limit: 5, Warn: math.MinInt}, {Limit: span, Warn: span + 1},
		{Limit: 5, Grace: -1}, {Limit: 5, Grace: span + 1}, {Limit: 5, Grace: math.MaxInt}, {Limit: 5, Grace: math.MinInt},
		{Limit: 5, Kill: -1}, {Limit: 5, Kill: span + 1}, {Limit: 5, Kill: math.MaxInt}, {Limit: 5, Kill: math.MinInt},
		{Warn: 0, Grace: 3, Kill: 5},
	} {
		if e := ladder.Check(p); e != api.ErrArg {
			t.Errorf("P10.1: case %d: %d", i, e)
		}
		mayNot(t, p, ladder.Run{Cancel: -1})
		mayNot(t, p, ladder.Run{From: 3, Cancel: 4})
	}
}

func TestRunsThatMayNotBe(t *testing.T) {
	for _, r := range []ladder.Run{
		{From: -1, Cancel: -1}, {From: -2, Cancel: -1}, {From: -1, Cancel: 3}, {From: math.MinInt, Cancel: -1}, {From: math.MinInt, Cancel: math.MinInt},
		{From: api.MaxNum + 1, Cancel: -1}, {From: api.MaxNum + 1, Cancel: api.MaxNum + 1}, {From: math.MaxInt, Cancel: -1},
		{From: 5, Cancel: 4}, {From: 5, Cancel: 0}, {From: 5, Cancel: -2}, {Cancel: -2}, {Cancel: math.MinInt},
		{Cancel: api.MaxNum + 1}, {Cancel: math.MaxInt}, {From: api.MaxNum, Cancel: api.MaxNum - 1},
	} {
		mayNot(t, plan, r)
	}
}

func TestEnd(t *testing.T) {
	for i, c := range []struct {
		limit int
		run   ladder.Run
		want  int
	}{
		{10, ladder.Run{Cancel: -1}, 10},
		{10, ladder.Run{From: 7, Cancel: -1}, 17},
		{10, ladder.Run{From: 7, Cancel: 7}, 7},
		{10, ladder.Run{From: 7, Cancel: 16}, 16},
		{10, ladder.Run{From: 7, Cancel: 17}, 17},
		{10, ladder.Run{From: 7, Cancel: 18}, 17},
		{10, ladder.Run{Cancel: 0}, 0},
		{10, ladder.Run{Cancel: api.MaxNum}, 10},
		{span, ladder.Run{From: api.MaxNum, Cancel: -1}, api.MaxNum + span},
		{span, ladder.Run{From: api.MaxNum, Cancel: api.MaxNum}, api.MaxNum},
		{1, ladder.Run{From: api.MaxNum - 1, Cancel: api.MaxNum}, api.MaxNum},
	} {
		if end := ladder.End(ladder.Plan{Limit: c.limit}, c.run); end != c.want {
			t.Errorf("P10.1: case %d: %d", i, end)
		}
	}
}

func TestRungs(t *testing.T) {
	most := ladder.Plan{Limit: span, Warn: span, Grace: span, Kill: span}
	for i, c := range []struct {
		plan ladder.Plan
		run  ladder.Run
		want [5]int
	}{
		{plan, ladder.Run{Cancel: -1}, [5]int{0, 8, 10, 13, 18}},
		{plan, ladder.Run{From: 100, Cancel: -1}, [5]int{100, 108, 110, 113, 118}},
		{plan, ladder.Run{From: 100, Cancel: 107}, [5]int{100, 107, 107, 110, 115}},
		{plan, ladder.Run{From: 100, Cancel: 108}, [5]int{100, 108, 108, 111, 116}},
		{plan, ladder.Run{From: 100, Cancel: 109}, [5]int{100, 108, 109, 112, 117}},
		{plan, ladder.Run{From: 100, Cancel: 111}, [5]int{100, 108, 110, 113, 118}},
		{plan, ladder.Run{From: 100, Cancel: 100}, [5]int{100, 100, 100, 103, 108}},
		{ladder.Plan{Limit: 4, Warn: 4}, ladder.Run{From: 1, Cancel: -1}, [5]int{1, 1, 5, 5, 5}},
		{ladder.Plan{Limit: 4, Kill: 2}, ladder.Run{From: 1, Cancel: 3}, [5]int{1, 3, 3, 3, 5}},
		{ladder.Plan{Limit: 4, Grace: 2}, ladder.Run{From: 1, Cancel: -1}, [5]int{1, 5, 5, 7, 7}},
		{most, ladder.Run{From: api.MaxNum, Cancel: -1}, [5]int{api.MaxNum, api.MaxNum, api.MaxNum + span, api.MaxNum + 2*span, api.MaxNum + 3*span}},
	} {
		if rungs := ladder.Rungs(c.plan, c.run); rungs != c.want {
			t.Errorf("P10.2: case %d: %v, not %v", i, rungs, c.want)
		}
	}
}

func TestStage(t *testing.T) {
	r := ladder.Run{From: 100, Cancel: -1}
	for now, want := range map[int]int{
		math.MinInt: -1, -1: -1, 0: -1, 99: -1, 100: 0, 107: 0, 108: 1, 109: 1, 110: 2, 112: 2,
		113: 3, 117: 3, 118: 4, 119: 4, api.MaxNum + 1: 4, math.MaxInt: 4,
	} {
		if stage := ladder.Stage(plan, r, now); stage != want {
			t.Errorf("P10.2: Stage at %d: %d, not %d", now, stage, want)
		}
	}
	// Of stages that begin at once the greatest counts.
	for i, c := range []struct {
		plan ladder.Plan
		run  ladder.Run
		now  int
		want int
	}{
		{ladder.Plan{Limit: 3}, ladder.Run{Cancel: -1}, 2, 0},
		{ladder.Plan{Limit: 3}, ladder.Run{Cancel: -1}, 3, 4},
		{ladder.Plan{Limit: 3, Warn: 3}, ladder.Run{Cancel: -1}, 0, 1},
		{ladder.Plan{Limit: 3}, ladder.Run{Cancel: 0}, 0, 4},
		{ladder.Plan{Limit: 3, Kill: 1}, ladder.Run{Cancel: 0}, 0, 3},
		{ladder.Plan{Limit: 3, Grace: 1}, ladder.Run{Cancel: 0}, 0, 2},
	} {
		if stage := ladder.Stage(c.plan, c.run, c.now); stage != c.want {
			t.Errorf("P10.2: case %d: %d", i, stage)
		}
	}
}

func TestBetween(t *testing.T) {
	r := ladder.Run{Cancel: -1}
	for i, c := range []struct {
		from, to int
		want     []int
	}{
		{-1, 18, []int{0, 1, 2, 3, 4}},
		{math.MinInt, math.MaxInt, []int{0, 1, 2, 3, 4}},
		{0, 18, []int{1, 2, 3, 4}},
		{-1, 0, []int{0}},
		{7, 8, []int{1}},
		{8, 10, []int{2}},
		{8, 9, nil},
		{9, 12, []int{2}},
		{9, 13, []int{2, 3}},
		{12, 17, []int{3}},
		{17, 18, []int{4}},
		{18, 19, nil},
		{18, math.MaxInt, nil},
		{math.MinInt, -1, nil},
		{10, 10, nil},
		{13, 9, nil},
		{18, -1, nil},
		{math.MaxInt, math.MinInt, nil},
	} {
		if stages := ladder.Between(plan, r, c.from, c.to); !slices.Equal(stages, c.want) {
			t.Errorf("P10.3: case %d: %v, not %v", i, stages, c.want)
		}
	}
	// Stages that begin at once are told at once.
	at := ladder.Plan{Limit: 3}
	if stages := ladder.Between(at, r, 2, 3); !slices.Equal(stages, []int{1, 2, 3, 4}) {
		t.Errorf("P10.3: %v", stages)
	}
	if stages := ladder.Between(at, ladder.Run{Cancel: 0}, -1, 0); !slices.Equal(stages, []int{0, 1, 2, 3, 4}) {
		t.Errorf("P10.3: %v", stages)
	}
}

// What is answered is new memory: who writes to it changes no later answer.
func TestAnswersAreNew(t *testing.T) {
	r := ladder.Run{Cancel: -1}
	rungs, stages := ladder.Rungs(plan, r), ladder.Between(plan, r, -1, 18)
	rungs[0], stages[0] = 77, 77
	if again := ladder.Rungs(plan, r); again != [5]int{0, 8, 10, 13, 18} {
		t.Errorf("R5: %v", again)
	}
	if again := ladder.Between(plan, r, -1, 18); !slices.Equal(again, []int{0, 1, 2, 3, 4}) {
		t.Errorf("R5: %v", again)
	}
}
