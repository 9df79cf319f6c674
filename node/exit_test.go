package node_test

import (
	"math"
	"slices"
	"testing"

	"roundhouse/api"
	"roundhouse/node"
	"roundhouse/rec"
)

// at is the step 3 of job 5, epoch 2, in a record that says more.
var at = api.Rec{Kind: rec.Held, Job: 5, Epoch: 2, Step: 3, Arg: 9, List: []int{3, 4}}

// exits fails unless the exit is answered by that, and nothing that was handed in has changed.
func exits(t *testing.T, id int, s rec.State, r api.Rec, codes []int, want node.Act, wantErr api.Errno) {
	t.Helper()
	was, had := copied(s), slices.Clone(codes)
	if a, e := node.Exit(id, s, r, codes); e != wantErr || !same(a, want) {
		t.Errorf("P16.2: node %d: %v: %v, %v: %v, %d, want %v, %d", id, was, r, codes, a, e, want, wantErr)
	}
	if !sameState(s, was) || !slices.Equal(codes, had) {
		t.Errorf("R5: %v: %v, %v", r, s, codes)
	}
}

func TestExit(t *testing.T) {
	for _, c := range []struct {
		codes []int
		worst int
	}{
		{[]int{0}, 0}, {[]int{255}, 255}, {[]int{0, 0, 0}, 0}, {[]int{1, 0}, 1}, {[]int{0, 1}, 1}, {[]int{3, 137, 9}, 137}, {slices.Repeat([]int{4, 5}, 500), 5},
	} {
		for job := none; job < 3; job++ {
			exits(t, id, state(job, rec.StepRuns), at, c.codes, writes(answers(api.MsgEnded, c.worst), rec.Ended, 3, c.worst), api.OK)
		}
	}
	for n := range 16 {
		if a, e := node.Exit(n, state(rec.JobUp, rec.StepRuns), at, []int{1}); e != api.OK || a.Reply.From != n || a.Reply.To != -1 {
			t.Errorf("P16.2: node %d: %v, %d", n, a, e)
		}
	}
}

func TestExitWrong(t *testing.T) {
	runs := state(rec.JobUp, rec.StepRuns)
	for job := none; job < 3; job++ {
		for _, step := range []int{none, rec.StepHeld, rec.StepAborted, rec.StepEnded, 9} {
			s := state(job, step)
			exits(t, id, s, at, []int{0}, node.Act{}, api.ErrState)
			// ErrArg is told ahead of ErrState.
			exits(t, id, s, at, nil, node.Act{}, api.ErrArg)
			exits(t, 16, s, at, []int{0}, node.Act{}, api.ErrArg)
		}
	}
	for _, r := range []api.Rec{{}, {Job: 5, Epoch: 2, Step: 4}, {Job: 5, Epoch: 3, Step: 3}, {Job: 4, Epoch: 2, Step: 3}, {Job: -1, Epoch: math.MinInt, Step: math.MaxInt}} {
		exits(t, id, runs, r, []int{0}, node.Act{}, api.ErrState)
	}
	for _, codes := range [][]int{nil, {}, {-1}, {256}, {0, 256}, {-1, 0}, {0, -1, 0}, {math.MaxInt}, {math.MinInt}} {
		exits(t, id, runs, at, codes, node.Act{}, api.ErrArg)
	}
	for _, n := range []int{-1, 16, math.MinInt, math.MaxInt} {
		exits(t, n, runs, at, []int{0}, node.Act{}, api.ErrArg)
	}
	exits(t, id, rec.State{}, api.Rec{}, []int{0}, node.Act{}, api.ErrState)
}

func TestAsks(t *testing.T) {
	for job := none; job < 3; job++ {
		for step := none; step < 4; step++ {
			for kind := -1; kind < 12; kind++ {
				want := kind == api.MsgLaunch && job == rec.JobUp && step == none
				for _, s := range []rec.State{state(job, step), later(drained(state(job, step)))} {
					if node.Asks(s, msg(kind)) != want {
						t.Errorf("P16.3: %v of %v is %v", msg(kind), s, !want)
					}
				}
			}
		}
	}
	up := state(rec.JobUp, none)
	for n := -3; n < 20; n++ {
		m := msg(api.MsgLaunch)
		m.To = n
		if node.Asks(up, m) != (n >= 0 && n < 16) {
			t.Errorf("P16.3: to node %d", n)
		}
		m = msg(api.MsgLaunch)
		m.From = n
		if node.Asks(up, m) != (n == -1) {
			t.Errorf("P16.3: from %d", n)
		}
	}
	if node.Asks(rec.State{}, msg(api.MsgLaunch)) || node.Asks(up, api.Msg{}) || node.Asks(rec.State{}, api.Msg{}) {
		t.Error("P16.3: of nothing")
	}
}
