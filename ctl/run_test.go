package ctl_test

import (
	"testing"

	"roundhouse/api"
	"roundhouse/ctl"
	"roundhouse/dag"
	"roundhouse/tally"
	"roundhouse/wire"
)

// TestNotForIt has what does not count, in whatever phase.
func TestNotForIt(t *testing.T) {
	for phase := range 4 {
		d := newDesk(t, on([]int{0, 1, 2, 3, 4}, step()), on(two, step()))
		if phase > 0 {
			d.all(api.MsgReady, 0, 0, two...)
		}
		if phase > 1 {
			d.says(api.MsgVote, 1, 0, 0, true)
		}
		if phase > 2 {
			d.all(api.MsgGone, 0, 0, two...)
		}
		j, _ := d.Job(2)
		if j.Phase != phase {
			t.Fatalf("P18.2: phase %d, want %d", j.Phase, phase)
		}
		d.untouched("P18.2: what is not for it", func() {
			for kind := range 10 {
				good := api.Msg{Kind: kind, From: 1, To: -1, Job: 2}
				for _, change := range []func(m *api.Msg){
					func(m *api.Msg) { m.To = 0 }, func(m *api.Msg) { m.To = 1 },
					func(m *api.Msg) { m.From = -1 }, func(m *api.Msg) { m.From = 0 }, func(m *api.Msg) { m.From = 5 },
					func(m *api.Msg) { m.Job = 0 }, func(m *api.Msg) { m.Job = 3 }, func(m *api.Msg) { m.Job = 1 << 40 },
					func(m *api.Msg) { m.Epoch = 1 }, func(m *api.Msg) { m.Epoch = 1 << 40 },
				} {
					m := good
					change(&m)
					if d.Deliver(wire.Encode(m)) {
						t.Errorf("P18.2: in phase %d: %v", phase, m)
					}
				}
				for _, s := range []string{"", "junk", wire.Encode(good) + "x", wire.Encode(good)[1:]} {
					if d.Deliver(s) {
						t.Errorf("P18.2: in phase %d: %q", phase, s)
					}
				}
				counts := []int{api.MsgReady, api.MsgVote, api.MsgGone}
				if phase == 3 || kind != counts[phase] {
					d.says(kind, 1, 0, 0, false)
					d.says(kind, 1, 0, 1, false)
				}
			}
		})
	}
}

func TestReady(t *testing.T) {
	d := newDesk(t, on([]int{0, 7, 15}, step(), step(api.Edge{Step: 0})))
	d.known(ctl.Starts, ctl.Fine, 0, []int{-1, -1}, []int{-1, -1})
	d.says(api.MsgReady, 7, 9, 0, true)
	d.sends(d.to(api.MsgProlog, 0, 0), d.to(api.MsgProlog, 15, 0))
	d.untouched("P18.2: again", func() { d.says(api.MsgReady, 7, 0, 0, true) })
	d.says(api.MsgReady, 0, 0, 0, true)
	d.sends(d.to(api.MsgProlog, 15, 0))
	d.known(ctl.Starts, ctl.Fine, 0, []int{-1, -1}, []int{-1, -1})
	d.says(api.MsgReady, 15, 0, 0, true)
	d.known(ctl.Runs, ctl.Fine, 0, []int{-1, -1}, []int{tally.Open, -1})
	d.sends(d.to(api.MsgLaunch, 0, 0), d.to(api.MsgLaunch, 7, 0), d.to(api.MsgLaunch, 15, 0))
	d.untouched("P18.2: it runs", func() {
		d.says(api.MsgReady, 7, 0, 0, false)
		d.says(api.MsgReady, 7, 0, 1, false)
	})
}

// TestRequeued has a job whose prologs fail, till it is not tried any more.
func TestRequeued(t *testing.T) {
	d := newDesk(t, on(two, step()))
	for d.epoch = range 4 {
		d.known(ctl.Starts, ctl.Fine, 0, open, none)
		d.sends(d.to(api.MsgProlog, 1, 0), d.to(api.MsgProlog, 4, 0))
		d.says(api.MsgReady, 4, 0, 0, true)
		// One that was ready is not, if it says so later.
		d.says(api.MsgReady, []int{1, 4, 1, 4}[d.epoch], 0, []int{1, 2, 255, 1 << 40}[d.epoch], true)
		fate := ctl.Requeued
		if d.epoch == 3 {
			fate = ctl.Failed
		}
		d.known(ctl.Finishes, fate, 0, open, none)
		d.sends(d.to(api.MsgFinish, 1, 0), d.to(api.MsgFinish, 4, 0))
		if e := d.Cancel(1); e != api.ErrState {
			t.Errorf("P18.1: Cancel = %d", e)
		}
		d.untouched("P18.2: it finishes", func() { d.says(api.MsgReady, 1, 0, 0, false) })
		d.says(api.MsgGone, 4, 0, d.epoch, true)
		d.known(ctl.Finishes, fate, 0, open, none)
		d.sends(d.to(api.MsgFinish, 1, 0))
		d.untouched("P18.2: again", func() { d.says(api.MsgGone, 4, 0, 0, true) })
		d.says(api.MsgGone, 1, 0, 1, true)
	}
	d.known(ctl.Over, ctl.Failed, 0, open, none)
	d.sends()
	d.untouched("P18.2: it is over", func() {
		d.says(api.MsgGone, 1, 0, 0, false)
		d.says(api.MsgReady, 1, 0, 0, false)
	})
	if e := d.Cancel(1); e != api.ErrState {
		t.Errorf("P18.1: Cancel = %d", e)
	}
}

// TestRequeuedRuns has a job run in its second epoch, as at first.
func TestRequeuedRuns(t *testing.T) {
	d := newDesk(t, on(two, step()))
	d.says(api.MsgReady, 1, 0, 0, true)
	d.says(api.MsgReady, 4, 0, 1, true)
	d.all(api.MsgGone, 0, 0, two...)
	d.untouched("P18.2: of the epoch ahead of it", func() { d.says(api.MsgReady, 1, 0, 0, false) })
	d.epoch = 1
	d.sends(d.to(api.MsgProlog, 1, 0), d.to(api.MsgProlog, 4, 0))
	d.all(api.MsgReady, 0, 0, two...)
	d.all(api.MsgVote, 0, 1, two...)
	d.all(api.MsgEnded, 0, 0, two...)
	d.known(ctl.Finishes, ctl.Fine, 0, []int{0}, []int{tally.Ended})
	d.sends(d.to(api.MsgFinish, 1, 0), d.to(api.MsgFinish, 4, 0))
	d.all(api.MsgGone, 0, 0, two...)
	d.known(ctl.Over, ctl.Fine, 0, []int{0}, []int{tally.Ended})
}

func TestVotes(t *testing.T) {
	d := runDesk(t, on(two, step(), step(api.Edge{Step: 0}), step()))
	d.untouched("P18.2: no tally", func() {
		for _, step := range []int{1, 3, 16, 1 << 40} {
			d.says(api.MsgVote, 1, step, 1, false)
			d.says(api.MsgVote, 1, step, 0, false)
			d.says(api.MsgEnded, 1, step, 0, false)
		}
		d.says(api.MsgEnded, 1, 0, 0, false)
		d.says(api.MsgGone, 1, 0, 0, false)
	})
	d.says(api.MsgVote, 4, 0, 1, true)
	d.sends(d.to(api.MsgLaunch, 1, 0), d.to(api.MsgLaunch, 1, 2), d.to(api.MsgLaunch, 4, 2))
	d.untouched("P18.2: again, or otherwise", func() {
		d.says(api.MsgVote, 4, 0, 1, true)
		d.says(api.MsgVote, 4, 0, 0, false)
		d.says(api.MsgEnded, 4, 0, 0, false)
	})
	d.says(api.MsgVote, 1, 0, 1, true)
	d.known(ctl.Runs, ctl.Fine, 0, []int{-1, -1, -1}, []int{tally.Go, -1, tally.Open})
	d.sends(d.to(api.MsgRelease, 1, 0), d.to(api.MsgRelease, 4, 0), d.to(api.MsgLaunch, 1, 2), d.to(api.MsgLaunch, 4, 2))
	d.untouched("P18.2: again", func() { d.says(api.MsgVote, 1, 0, 1, true) })
}

// TestYes has what is no yes, and refuses the step.
func TestYes(t *testing.T) {
	for _, arg := range []int{0, 2, 255, 1 << 40} {
		d := runDesk(t, on(two, step(), step(api.Edge{Step: 0, Kind: api.AfterNotOK})))
		d.says(api.MsgVote, 4, 0, arg, true)
		d.known(ctl.Runs, ctl.Fine, 0, []int{255, -1}, []int{tally.Refused, tally.Open})
		d.sends(d.to(api.MsgAbort, 1, 0), d.to(api.MsgAbort, 4, 0), d.to(api.MsgLaunch, 1, 1), d.to(api.MsgLaunch, 4, 1))
		d.untouched("P18.5: who is refused is not released", func() {
			d.says(api.MsgVote, 1, 0, 1, false)
			d.says(api.MsgVote, 4, 0, 1, false)
			d.says(api.MsgVote, 4, 0, 0, true)
			d.says(api.MsgEnded, 1, 0, 0, false)
		})
	}
}

func TestEnded(t *testing.T) {
	d := runDesk(t, on(two, step(), step(api.Edge{Step: 0})))
	d.all(api.MsgVote, 0, 1, two...)
	d.untouched("P18.2: no code", func() {
		d.says(api.MsgEnded, 1, 0, 256, false)
		d.says(api.MsgEnded, 1, 0, 1<<40, false)
	})
	d.says(api.MsgEnded, 4, 0, 3, true)
	d.known(ctl.Runs, ctl.Fine, 0, []int{-1, -1}, []int{tally.Go, -1})
	d.sends(d.to(api.MsgRelease, 1, 0))
	d.untouched("P18.2: again, or otherwise", func() {
		d.says(api.MsgEnded, 4, 0, 3, true)
		d.says(api.MsgEnded, 4, 0, 4, false)
	})
	d.says(api.MsgEnded, 1, 0, 2, true)
	d.known(ctl.Finishes, ctl.Failed, 3, []int{3, dag.Skipped}, []int{tally.Ended, -1})
	d.untouched("P18.2: it finishes", func() { d.says(api.MsgEnded, 1, 0, 2, false) })
	d.sends(d.to(api.MsgFinish, 1, 0), d.to(api.MsgFinish, 4, 0))
}

// TestEdges has a step end by a code, and others wait for it by each kind of edge.
func TestEdges(t *testing.T) {
	const skip = dag.Skipped
	j := on([]int{3}, step(), step(api.Edge{Step: 0, Kind: api.AfterOK}), step(api.Edge{Step: 0, Kind: api.AfterAny}), step(api.Edge{Step: 0, Kind: api.AfterNotOK}), step(api.Edge{Step: 1, Kind: api.AfterAny}))
	for _, c := range []struct {
		code  int
		codes []int
		votes []int
	}{
		{0, []int{0, -1, -1, skip, -1}, []int{tally.Ended, tally.Open, tally.Open, -1, -1}},
		{5, []int{5, skip, -1, -1, -1}, []int{tally.Ended, -1, tally.Open, tally.Open, tally.Open}},
	} {
		d := runDesk(t, j)
		d.says(api.MsgVote, 3, 0, 1, true)
		d.says(api.MsgEnded, 3, 0, c.code, true)
		d.known(ctl.Runs, ctl.Fine, 0, c.codes, c.votes)
		// The same again does not launch a step anew.
		d.untouched("P18.2: again", func() { d.says(api.MsgEnded, 3, 0, c.code, true) })
		for step, vote := range c.votes {
			if vote == tally.Open {
				d.says(api.MsgVote, 3, step, 1, true)
			}
		}
		d.says(api.MsgEnded, 3, 2, 9, true)
		if c.code == 0 {
			d.says(api.MsgEnded, 3, 1, 9, true)
			d.says(api.MsgVote, 3, 4, 0, true)
			d.known(ctl.Finishes, ctl.Failed, 255, []int{0, 9, 9, skip, 255}, []int{3, 3, 3, -1, 2})
			d.sends(d.to(api.MsgAbort, 3, 4), d.to(api.MsgFinish, 3, 0))
			continue
		}
		d.says(api.MsgEnded, 3, 3, 0, true)
		d.says(api.MsgEnded, 3, 4, 1, true)
		d.known(ctl.Finishes, ctl.Failed, 9, []int{5, skip, 9, 0, 1}, []int{3, -1, 3, 3, 3})
	}
}

// TestCancelStarts has a job's end asked ahead of its run: none of its steps is launched, whichever epoch it comes to.
func TestCancelStarts(t *testing.T) {
	d := newDesk(t, on(two, step(), step(api.Edge{Step: 0, Kind: api.AfterAny})))
	d.untouched("P18.1: an end that is asked as it starts", func() {
		if d.Cancel(1) != api.OK || d.Cancel(1) != api.OK {
			t.Error("P18.1: Cancel")
		}
	})
	d.says(api.MsgReady, 1, 0, 1, true)
	d.known(ctl.Finishes, ctl.Requeued, 0, []int{-1, -1}, []int{-1, -1})
	d.all(api.MsgGone, 0, 0, two...)
	d.epoch = 1
	d.known(ctl.Starts, ctl.Fine, 0, []int{-1, -1}, []int{-1, -1})
	d.all(api.MsgReady, 0, 0, two...)
	d.known(ctl.Finishes, ctl.Failed, 0, []int{dag.Skipped, dag.Skipped}, []int{-1, -1})
	d.sends(d.to(api.MsgFinish, 1, 0), d.to(api.MsgFinish, 4, 0))
	d.all(api.MsgGone, 0, 0, two...)
	d.known(ctl.Over, ctl.Failed, 0, []int{dag.Skipped, dag.Skipped}, []int{-1, -1})
}

// TestCancelRuns has a job's end asked when steps of it are in each state.
func TestCancelRuns(t *testing.T) {
	const skip = dag.Skipped
	d := runDesk(t, on(two, step(), step(), step(), step(), step(api.Edge{Step: 0, Kind: api.AfterAny}), step(api.Edge{Step: 1, Kind: api.AfterAny})))
	d.all(api.MsgVote, 1, 1, two...) // goes
	d.all(api.MsgEnded, 1, 0, 4)
	d.says(api.MsgVote, 2, 0, 1, false)
	d.says(api.MsgVote, 1, 2, 0, true) // refused
	d.all(api.MsgVote, 3, 1, two...)
	d.all(api.MsgEnded, 3, 0, two...) // ended
	if e := d.Cancel(1); e != api.OK {
		t.Errorf("P18.1: Cancel = %d", e)
	}
	d.known(ctl.Runs, ctl.Fine, 0, []int{-1, -1, 255, 0, skip, skip}, []int{tally.Open, tally.Go, tally.Refused, tally.Ended, -1, -1})
	d.sends(d.to(api.MsgLaunch, 1, 0), d.to(api.MsgLaunch, 4, 0), d.to(api.MsgRelease, 1, 1), d.to(api.MsgCancel, 1, 1), d.to(api.MsgAbort, 1, 2), d.to(api.MsgAbort, 4, 2))
	d.untouched("P18.1: again", func() {
		if e := d.Cancel(1); e != api.OK {
			t.Errorf("P18.1: Cancel = %d", e)
		}
	})
	d.all(api.MsgVote, 0, 1, two...)
	d.sends(d.to(api.MsgRelease, 1, 0), d.to(api.MsgCancel, 1, 0), d.to(api.MsgRelease, 4, 0), d.to(api.MsgCancel, 4, 0), d.to(api.MsgRelease, 1, 1), d.to(api.MsgCancel, 1, 1), d.to(api.MsgAbort, 1, 2), d.to(api.MsgAbort, 4, 2))
	d.says(api.MsgEnded, 1, 1, 15, true)
	d.known(ctl.Runs, ctl.Fine, 0, []int{-1, 15, 255, 0, skip, skip}, []int{tally.Go, tally.Ended, tally.Refused, tally.Ended, -1, -1})
	d.all(api.MsgEnded, 0, 0, two...)
	d.known(ctl.Finishes, ctl.Failed, 255, []int{0, 15, 255, 0, skip, skip}, []int{tally.Ended, tally.Ended, tally.Refused, tally.Ended, -1, -1})
}

// TestCancelFails has a job whose end was asked, though each of its steps ended by 0.
func TestCancelFails(t *testing.T) {
	d := runDesk(t, on(two, step()))
	d.all(api.MsgVote, 0, 1, two...)
	d.Cancel(1)
	d.all(api.MsgEnded, 0, 0, two...)
	d.known(ctl.Finishes, ctl.Failed, 0, []int{0}, []int{tally.Ended})
	if e := d.Cancel(1); e != api.ErrState {
		t.Errorf("P18.1: Cancel = %d", e)
	}
	d.all(api.MsgGone, 0, 0, two...)
	d.known(ctl.Over, ctl.Failed, 0, []int{0}, []int{tally.Ended})
}

// TestFinishAborts has steps that were refused, when a job finishes: each node is told of each of them, ahead of the finish.
func TestFinishAborts(t *testing.T) {
	d := runDesk(t, on([]int{0, 1, 4}, step(), step(), step()))
	d.says(api.MsgVote, 1, 2, 0, true)
	d.all(api.MsgVote, 1, 1, 0, 1, 4)
	d.all(api.MsgEnded, 1, 0, 0, 1, 4)
	d.says(api.MsgVote, 4, 0, 1, true)
	d.says(api.MsgVote, 0, 0, 0, true)
	d.known(ctl.Finishes, ctl.Failed, 255, []int{255, 0, 255}, []int{tally.Refused, tally.Ended, tally.Refused})
	d.says(api.MsgGone, 1, 0, 0, true)
	d.sends(d.to(api.MsgAbort, 0, 0), d.to(api.MsgAbort, 0, 2), d.to(api.MsgFinish, 0, 0), d.to(api.MsgAbort, 4, 0), d.to(api.MsgAbort, 4, 2), d.to(api.MsgFinish, 4, 0))
}

// TestSeveralJobs has jobs in each phase: what is said is said job by job, and one does not touch another.
func TestSeveralJobs(t *testing.T) {
	d := newDesk(t, on(two, step()), on([]int{4}, step()), on([]int{0, 4}, step()), on([]int{4}, step()))
	d.all(api.MsgReady, 0, 0, 4)
	d.job = 2
	d.all(api.MsgReady, 0, 0, 4)
	d.says(api.MsgVote, 4, 0, 0, true)
	d.job = 1
	d.all(api.MsgReady, 0, 0, two...)
	to := func(kind, job, node int) api.Msg {
		return api.Msg{Kind: kind, From: -1, To: node, Job: job}
	}
	d.sends(to(api.MsgLaunch, 1, 1), to(api.MsgLaunch, 1, 4), to(api.MsgAbort, 2, 4), to(api.MsgFinish, 2, 4), to(api.MsgProlog, 3, 0), to(api.MsgProlog, 3, 4), to(api.MsgLaunch, 4, 4))
}
