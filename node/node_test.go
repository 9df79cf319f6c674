package node_test

import (
	"math"
	"slices"
	"testing"

	"roundhouse/api"
	"roundhouse/node"
	"roundhouse/rec"
)

func sameRec(a, b api.Rec) bool {
	return a.Kind == b.Kind && a.Job == b.Job && a.Epoch == b.Epoch && a.Step == b.Step && a.Arg == b.Arg && slices.Equal(a.List, b.List)
}

func same(a, b node.Act) bool {
	return a.Has == b.Has && sameRec(a.Rec, b.Rec) && a.Back == b.Back && a.Reply == b.Reply &&
		a.Start == b.Start && a.Kill == b.Kill && a.Cancel == b.Cancel
}

func sameStep(a, b rec.Step) bool {
	return a.Job == b.Job && a.Epoch == b.Epoch && a.Step == b.Step && a.Phase == b.Phase && a.Code == b.Code && slices.Equal(a.Pids, b.Pids)
}

func sameState(a, b rec.State) bool {
	return slices.Equal(a.Jobs, b.Jobs) && slices.EqualFunc(a.Steps, b.Steps, sameStep) && a.Drained == b.Drained
}

// copied is a state that has nothing in common with s.
func copied(s rec.State) rec.State {
	s.Jobs, s.Steps = slices.Clone(s.Jobs), slices.Clone(s.Steps)
	for i := range s.Steps {
		s.Steps[i].Pids = slices.Clone(s.Steps[i].Pids)
	}
	return s
}

const id = 11

// none is no job, or no step, where a phase is asked for.
const none = -1

// state has job 5 of epoch 2 in a phase, and its step 3 in one, among others that are none of these.
func state(job, step int) rec.State {
	s := rec.State{
		Jobs:  []rec.Job{{Job: 6, Epoch: 3}, {Job: 5, Epoch: 1, Phase: rec.JobUp}, {Job: 2, Epoch: 5, Phase: rec.JobFailed}},
		Steps: []rec.Step{{Job: 6, Epoch: 2, Step: 3, Pids: []int{1}}, {Job: 5, Epoch: 1, Step: 3, Phase: rec.StepRuns, Pids: []int{2}}},
	}
	if job != none {
		s.Jobs = append(s.Jobs, rec.Job{Job: 5, Epoch: 2, Phase: job})
	}
	if step != none {
		s.Steps = append(s.Steps, rec.Step{Job: 5, Epoch: 2, Step: 3, Phase: step, Pids: []int{3, 4}})
	}
	if step == rec.StepEnded {
		s.Steps[2].Code = 143
	}
	return s
}

// later has job 5 in an epoch behind 2 too.
func later(s rec.State) rec.State {
	s.Jobs = append(s.Jobs, rec.Job{Job: 5, Epoch: 3, Phase: rec.JobFailed})
	return s
}

func drained(s rec.State) rec.State {
	s.Drained = true
	return s
}

// msg is a message of that kind to the node, of job 5, epoch 2, step 3.
func msg(kind int) api.Msg {
	return api.Msg{Kind: kind, From: -1, To: id, Job: 5, Epoch: 2, Step: 3, Arg: 8, Text: "what is told beside"}
}

// writes adds a record of job 5, epoch 2 to an act.
func writes(a node.Act, kind, step, arg int, list ...int) node.Act {
	a.Has, a.Rec = true, api.Rec{Kind: kind, Job: 5, Epoch: 2, Step: step, Arg: arg, List: list}
	return a
}

// answers is an act that has an answer.
func answers(kind, arg int) node.Act {
	return node.Act{Back: true, Reply: api.Msg{Kind: kind, From: id, To: -1, Job: 5, Epoch: 2, Step: 3, Arg: arg}}
}

// decides fails unless that is decided, without an error, and nothing that was handed in has changed.
func decides(t *testing.T, s rec.State, m api.Msg, f node.Facts, want node.Act) {
	t.Helper()
	was, pids := copied(s), slices.Clone(f.Pids)
	if a, e := node.Decide(id, s, m, f); e != api.OK || !same(a, want) {
		t.Errorf("P16.1: %v: %v, %v: %v, %d, want %v", was, m, f, a, e, want)
	}
	if !sameState(s, was) || !slices.Equal(f.Pids, pids) {
		t.Errorf("R5: %v: %v, %v", m, s, f)
	}
}

// facts is what must not count for a message that does not go by it.
func facts() []node.Facts {
	return []node.Facts{
		{}, {Pids: []int{7, 8}}, {Cred: api.ErrReplay}, {Cred: api.ErrTag, Pids: []int{7}, Code: 3, Busy: true}, {Code: 255}, {Busy: true},
	}
}

func TestProlog(t *testing.T) {
	for _, f := range facts() {
		for step := none; step < 4; step++ {
			for _, around := range []func(rec.State) rec.State{copied, later, drained} {
				decides(t, around(state(rec.JobUp, step)), msg(api.MsgProlog), f, answers(api.MsgReady, 0))
				decides(t, around(state(rec.JobFailed, step)), msg(api.MsgProlog), f, answers(api.MsgReady, 1))
				decides(t, around(state(rec.JobGone, step)), msg(api.MsgProlog), f, answers(api.MsgGone, 0))
				decides(t, around(state(9, step)), msg(api.MsgProlog), f, node.Act{})
			}
			decides(t, later(state(none, step)), msg(api.MsgProlog), f, node.Act{})
			decides(t, drained(later(state(none, step))), msg(api.MsgProlog), f, node.Act{})
			decides(t, drained(state(none, step)), msg(api.MsgProlog), f, answers(api.MsgReady, 1))
		}
	}
	for code, ready := range map[int]int{0: 0, 1: 1, 2: 1, 137: 1, 255: 1} {
		for _, f := range []node.Facts{{Code: code}, {Code: code, Pids: []int{1}, Cred: api.ErrTag, Busy: true}} {
			decides(t, state(none, none), msg(api.MsgProlog), f, writes(answers(api.MsgReady, ready), rec.Prolog, 0, code))
			decides(t, state(none, rec.StepRuns), msg(api.MsgProlog), f, writes(answers(api.MsgReady, ready), rec.Prolog, 0, code))
			decides(t, rec.State{}, msg(api.MsgProlog), f, writes(answers(api.MsgReady, ready), rec.Prolog, 0, code))
		}
	}
}

func TestLaunch(t *testing.T) {
	well := node.Facts{Pids: []int{7, 9}}
	for _, f := range append(facts(), well) {
		for job := none; job < 3; job++ {
			decides(t, state(job, rec.StepHeld), msg(api.MsgLaunch), f, answers(api.MsgVote, 1))
			decides(t, state(job, rec.StepRuns), msg(api.MsgLaunch), f, answers(api.MsgVote, 1))
			decides(t, state(job, rec.StepEnded), msg(api.MsgLaunch), f, answers(api.MsgVote, 1))
			decides(t, state(job, rec.StepAborted), msg(api.MsgLaunch), f, answers(api.MsgVote, 0))
		}
		for _, job := range []int{none, rec.JobFailed, rec.JobGone} {
			decides(t, state(job, none), msg(api.MsgLaunch), f, answers(api.MsgVote, 0))
			decides(t, later(state(job, none)), msg(api.MsgLaunch), f, answers(api.MsgVote, 0))
		}
		decides(t, rec.State{}, msg(api.MsgLaunch), f, answers(api.MsgVote, 0))
	}
	up := state(rec.JobUp, none)
	for e := api.ErrArg; e <= api.ErrLine; e++ {
		decides(t, up, msg(api.MsgLaunch), node.Facts{Cred: e, Pids: []int{7}}, answers(api.MsgVote, 0))
	}
	decides(t, up, msg(api.MsgLaunch), node.Facts{}, answers(api.MsgVote, 0))
	decides(t, up, msg(api.MsgLaunch), node.Facts{Pids: []int{}}, answers(api.MsgVote, 0))
	decides(t, up, msg(api.MsgLaunch), well, writes(answers(api.MsgVote, 1), rec.Held, 3, 0, 7, 9))
	decides(t, drained(later(up)), msg(api.MsgLaunch), node.Facts{Pids: []int{7}, Code: 5, Busy: true}, writes(answers(api.MsgVote, 1), rec.Held, 3, 0, 7))
}

func TestRelease(t *testing.T) {
	start := writes(node.Act{Start: true}, rec.Released, 3, 0)
	for _, f := range facts() {
		for job := none; job < 3; job++ {
			decides(t, state(job, rec.StepHeld), msg(api.MsgRelease), f, start)
			decides(t, state(job, rec.StepEnded), msg(api.MsgRelease), f, answers(api.MsgEnded, 143))
			for _, step := range []int{none, rec.StepRuns, rec.StepAborted, 9} {
				decides(t, state(job, step), msg(api.MsgRelease), f, node.Act{})
			}
		}
	}
}

func TestAbort(t *testing.T) {
	kill := writes(node.Act{Kill: true}, rec.Aborted, 3, 0)
	refuse := writes(node.Act{}, rec.Refused, 3, 0)
	for _, f := range facts() {
		for job := none; job < 3; job++ {
			decides(t, state(job, rec.StepHeld), msg(api.MsgAbort), f, kill)
			for _, step := range []int{rec.StepRuns, rec.StepAborted, rec.StepEnded, 9} {
				decides(t, state(job, step), msg(api.MsgAbort), f, node.Act{})
			}
		}
		decides(t, state(rec.JobUp, none), msg(api.MsgAbort), f, refuse)
		decides(t, drained(later(state(rec.JobUp, none))), msg(api.MsgAbort), f, refuse)
		for _, job := range []int{none, rec.JobFailed, rec.JobGone} {
			decides(t, state(job, none), msg(api.MsgAbort), f, node.Act{})
		}
	}
}

func TestCancel(t *testing.T) {
	for _, f := range facts() {
		for job := none; job < 3; job++ {
			decides(t, state(job, rec.StepRuns), msg(api.MsgCancel), f, node.Act{Cancel: true})
			for _, step := range []int{none, rec.StepHeld, rec.StepAborted, rec.StepEnded, 9} {
				decides(t, state(job, step), msg(api.MsgCancel), f, node.Act{})
			}
		}
	}
}

func TestFinish(t *testing.T) {
	gone := answers(api.MsgGone, 0)
	void := writes(gone, rec.Void, 0, 0)
	for _, f := range facts() {
		for step := none; step < 4; step++ {
			decides(t, state(rec.JobGone, step), msg(api.MsgFinish), f, gone)
			decides(t, later(state(rec.JobGone, step)), msg(api.MsgFinish), f, gone)
			decides(t, later(state(none, step)), msg(api.MsgFinish), f, gone)
			decides(t, state(none, step), msg(api.MsgFinish), f, void)
			decides(t, drained(state(none, step)), msg(api.MsgFinish), f, void)
		}
		for _, job := range []int{rec.JobUp, rec.JobFailed} {
			decides(t, state(job, rec.StepHeld), msg(api.MsgFinish), f, node.Act{})
			decides(t, later(state(job, rec.StepRuns)), msg(api.MsgFinish), f, node.Act{})
		}
	}
	for _, job := range []int{rec.JobUp, rec.JobFailed} {
		for _, step := range []int{none, rec.StepAborted, rec.StepEnded} {
			for code, arg := range map[int]int{0: 0, 1: 1, 9: 1, 255: 1} {
				epilog := writes(answers(api.MsgGone, arg), rec.Epilog, 0, code)
				decides(t, state(job, step), msg(api.MsgFinish), node.Facts{Code: code}, epilog)
				decides(t, drained(later(state(job, step))), msg(api.MsgFinish), node.Facts{Code: code, Cred: api.ErrTag, Pids: []int{1}}, epilog)
				decides(t, state(job, step), msg(api.MsgFinish), node.Facts{Code: code, Busy: true}, node.Act{})
			}
		}
	}
}

// TestOthers has messages of jobs, epochs and steps that stand beside those that are there.
func TestOthers(t *testing.T) {
	s := state(rec.JobUp, rec.StepHeld)
	for _, m := range []api.Msg{{Job: 5, Epoch: 2, Step: 4}, {Job: 5, Epoch: 3, Step: 3}, {Job: 4, Epoch: 2, Step: 3}, {Job: 5, Epoch: 0, Step: 3}} {
		m.From, m.To = -1, id
		isUp := m.Job == 5 && m.Epoch == 2
		for kind, want := range map[int]node.Act{api.MsgRelease: {}, api.MsgCancel: {}, api.MsgAbort: {Has: isUp}, api.MsgLaunch: {Has: isUp, Back: true}} {
			m.Kind = kind
			a, e := node.Decide(id, s, m, node.Facts{Pids: []int{7}})
			if e != api.OK || a.Has != want.Has || a.Back != want.Back || a.Start || a.Kill || a.Cancel {
				t.Errorf("P16.1: %v: %v, %d", m, a, e)
			}
		}
	}
	// Another job's greater epoch is not this one's.
	for _, job := range []int{1, 3, 4, 7} {
		for _, kind := range []int{api.MsgProlog, api.MsgFinish} {
			if a, e := node.Decide(id, s, api.Msg{Kind: kind, From: -1, To: id, Job: job}, node.Facts{}); e != api.OK || !a.Has || a.Rec.Job != job || !a.Back {
				t.Errorf("P16.1: kind %d of job %d: %v, %d", kind, job, a, e)
			}
		}
	}
}

// TestSeveral has a state in which the job and the step are there twice: the first one is it.
func TestSeveral(t *testing.T) {
	s := state(rec.JobUp, rec.StepAborted)
	s.Jobs = append(s.Jobs, rec.Job{Job: 5, Epoch: 2, Phase: rec.JobGone})
	s.Steps = append(s.Steps, rec.Step{Job: 5, Epoch: 2, Step: 3, Phase: rec.StepHeld})
	decides(t, s, msg(api.MsgProlog), node.Facts{}, answers(api.MsgReady, 0))
	decides(t, s, msg(api.MsgLaunch), node.Facts{}, answers(api.MsgVote, 0))
	decides(t, s, msg(api.MsgRelease), node.Facts{}, node.Act{})
	// Whether one lives is asked of them all.
	decides(t, s, msg(api.MsgFinish), node.Facts{}, node.Act{})
}

// TestNodes has the node's own number in the answer.
func TestNodes(t *testing.T) {
	for n := range 16 {
		m := api.Msg{Kind: api.MsgFinish, From: -1, To: n, Job: 1}
		a, e := node.Decide(n, rec.State{}, m, node.Facts{})
		want := node.Act{Has: true, Rec: api.Rec{Kind: rec.Void, Job: 1}, Back: true, Reply: api.Msg{Kind: api.MsgGone, From: n, To: -1, Job: 1}}
		if e != api.OK || !same(a, want) {
			t.Errorf("P16.1: node %d: %v, %d", n, a, e)
		}
	}
}

// fails fails unless nothing is decided, by that error.
func fails(t *testing.T, id int, m api.Msg, f node.Facts, want api.Errno) {
	t.Helper()
	for _, s := range []rec.State{{}, state(rec.JobUp, rec.StepHeld), state(rec.JobUp, none)} {
		if a, e := node.Decide(id, s, m, f); e != want || !same(a, node.Act{}) {
			t.Errorf("P16.1: node %d: %v, %v: %v, %d, want %d", id, m, f, a, e, want)
		}
	}
}

func TestDecideWrong(t *testing.T) {
	for kind := -1; kind < 12; kind++ {
		for _, n := range []int{-1, 16, math.MinInt, math.MaxInt} {
			m := msg(kind)
			m.To = n
			fails(t, n, m, node.Facts{}, api.ErrArg)
			fails(t, n, msg(kind), node.Facts{}, api.ErrArg)
			fails(t, id, m, node.Facts{}, api.ErrArg)
		}
		for _, n := range []int{0, 10, 12, 15} {
			fails(t, n, msg(kind), node.Facts{}, api.ErrArg)
		}
		for _, n := range []int{-2, 0, id, 16, math.MinInt} {
			m := msg(kind)
			m.From = n
			fails(t, id, m, node.Facts{Pids: []int{7}}, api.ErrArg)
		}
		for _, n := range []int{-1, 256, math.MinInt, math.MaxInt} {
			fails(t, id, msg(kind), node.Facts{Code: n, Pids: []int{7}}, api.ErrArg)
		}
	}
	for _, kind := range []int{-1, api.MsgReady, api.MsgVote, api.MsgEnded, api.MsgGone, 10, math.MinInt, math.MaxInt} {
		for _, f := range facts() {
			fails(t, id, msg(kind), f, api.ErrForm)
		}
	}
}

// TestApart asks whether an act's list is nobody else's.
func TestApart(t *testing.T) {
	pids := []int{7, 9}
	a, _ := node.Decide(id, state(rec.JobUp, none), msg(api.MsgLaunch), node.Facts{Pids: pids})
	pids[0] = 1
	if !slices.Equal(a.Rec.List, []int{7, 9}) {
		t.Errorf("R5: what is handed in is kept: %v", a)
	}
	a.Rec.List[1] = 1
	if !slices.Equal(pids, []int{1, 9}) {
		t.Errorf("R5: what is answered is what was handed in: %v", pids)
	}
}
