package node_test

import (
	"testing"

	"roundhouse/api"
	"roundhouse/node"
	"roundhouse/rec"
)

type dice uint64

func (d *dice) below(n int) int {
	*d = *d*6364136223846793005 + 1442695040888963407
	return int(uint64(*d) >> 33 % uint64(n))
}

// message throws one of few jobs, epochs and steps.
func (d *dice) message() api.Msg {
	kinds := []int{api.MsgProlog, api.MsgLaunch, api.MsgLaunch, api.MsgLaunch, api.MsgRelease, api.MsgRelease, api.MsgAbort, api.MsgCancel, api.MsgFinish}
	return api.Msg{Kind: kinds[d.below(len(kinds))], From: -1, To: id, Job: d.below(4), Epoch: d.below(3), Step: d.below(3)}
}

// found throws facts, with a Pid that no step has had.
func (d *dice) found(next *int) node.Facts {
	f := node.Facts{Busy: d.below(4) == 0}
	if d.below(5) != 0 {
		*next++
		f.Pids = []int{*next}
	}
	if d.below(6) == 0 {
		f.Cred = api.ErrTime
	}
	if d.below(60) == 0 {
		f.Code = 1 + d.below(255)
	}
	return f
}

// applies is the state behind what an act writes; it fails if that may not come.
func applies(t *testing.T, s rec.State, a node.Act) rec.State {
	t.Helper()
	if !a.Has {
		return s
	}
	next, e := rec.Apply(s, a.Rec)
	if e != api.OK {
		t.Fatalf("P16.1: %v is written behind %v: %d", a.Rec, s, e)
	}
	return next
}

// sameAgain fails unless the message is decided without a record behind a, and answered as by a.
func sameAgain(t *testing.T, s rec.State, m api.Msg, f node.Facts, a node.Act) {
	t.Helper()
	again, e := node.Decide(id, s, m, f)
	want := a.Reply
	if m.Kind == api.MsgFinish {
		// An epilog's code is told by the first answer alone: P16.1 says what a job that is gone is answered by.
		want.Arg = 0
	}
	if e != api.OK || again.Has || again.Start || again.Kill || again.Back != a.Back || again.Reply != want {
		t.Fatalf("P16.4: %v of %v: first %v, then %v, %d", m, s, a, again, e)
	}
}

// exit ends a step that runs, if there is one; a second time nothing is written.
func (d *dice) exit(t *testing.T, s rec.State) rec.State {
	t.Helper()
	for _, x := range s.Steps {
		if x.Phase != rec.StepRuns || d.below(2) == 0 {
			continue
		}
		r := api.Rec{Job: x.Job, Epoch: x.Epoch, Step: x.Step}
		a, e := node.Exit(id, s, r, []int{d.below(256), d.below(256)})
		if e != api.OK {
			t.Fatalf("P16.2: %v of %v: %d", r, s, e)
		}
		s = applies(t, s, a)
		if a, e := node.Exit(id, s, r, []int{0}); e != api.ErrState || !same(a, node.Act{}) {
			t.Fatalf("P16.2: %v of %v again: %v, %d", r, s, a, e)
		}
		return s
	}
	return s
}

// TestWalks has messages come in any order, each of them twice.
func TestWalks(t *testing.T) {
	d, pid := dice(16), 0
	var written [8]int
	for range 400 {
		s := rec.State{}
		for range 120 {
			m := d.message()
			f := d.found(&pid)
			asks := node.Asks(s, m)
			a, e := node.Decide(id, s, m, f)
			if held := a.Has && a.Rec.Kind == rec.Held; e != api.OK || held != (asks && f.Cred == api.OK && len(f.Pids) > 0) {
				t.Fatalf("P16.3: %v, %v of %v: %v, %v, %d", m, f, s, asks, a, e)
			}
			if a.Has {
				written[a.Rec.Kind]++
			}
			s = applies(t, s, a)
			sameAgain(t, s, m, f, a)
			if d.below(6) == 0 {
				s = d.exit(t, s)
			}
		}
		for _, x := range s.Steps {
			if x.Phase == rec.StepEnded {
				written[rec.Ended]++
			}
		}
	}
	for kind, n := range written {
		if n < 100 {
			t.Errorf("records of kind %d were written %d times only", kind, n)
		}
	}
}
