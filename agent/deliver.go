package agent

import (
	"slices"

	"roundhouse/api"
	"roundhouse/cores"
	"roundhouse/cred"
	"roundhouse/mask"
	"roundhouse/node"
	"roundhouse/rec"
	"roundhouse/wire"
)

const (
	maxCode   = 255
	otherCode = 1       // what a script's code counts as that may not be one
	maxJob    = 1 << 20 // of a step that is launched: its number is to be an owner's
)

// Deliver does what a message asks for, and is what it answers.
func (a *Agent) Deliver(s string, c Choice) []string {
	m, e := wire.Decode(s)
	if a.Down() || e != api.OK {
		return nil
	}
	facts := node.Facts{Code: codeOf(c), Busy: a.isBusy(m)}
	// Another node's message is refused below: it must not use a credential up ahead of that.
	if m.To == a.config.ID && node.Asks(a.state, m) {
		facts.Pids, facts.Cred = a.launch(m, c.Fail)
	}
	act, e := node.Decide(a.config.ID, a.state, m, facts)
	if e != api.OK {
		return nil
	}
	return a.carryOut(act, placeOfMsg(m), c.Tear)
}

// carryOut writes what was decided of a step, and does it; where the record is torn, nothing is done.
func (a *Agent) carryOut(act node.Act, p place, tear int) []string {
	if act.Has && !a.write(act.Rec, tear) {
		return nil
	}
	switch {
	case act.Has && act.Rec.Kind == rec.Held:
		a.cores.Commit(p.number())
	case act.Start:
		a.start(p)
	case act.Kill:
		a.clear(p)
	case act.Cancel:
		a.cancel(p)
	}
	if !act.Back {
		return nil
	}
	return []string{wire.Encode(act.Reply)}
}

// launch holds the tasks that a launch asks for, and is their Pids, or why there are none.
func (a *Agent) launch(m api.Msg, fail int) ([]int, api.Errno) {
	o, e := Unpack(m.Text)
	if e != api.OK || m.Step >= api.MaxSteps || m.Job > maxJob {
		return nil, api.ErrArg
	}
	if e := a.admit(m, o); e != api.OK {
		return nil, e
	}
	return a.hold(placeOfMsg(m), o, fail)
}

// admit uses an order's credential, if that allows the launch.
func (a *Agent) admit(m api.Msg, o Order) api.Errno {
	c, e := cred.Open(a.config.Key, o.Cred)
	if e != api.OK {
		return e
	}
	ask := cred.Ask{Job: m.Job, Epoch: m.Epoch, Step: m.Step, Node: a.config.ID, Cores: o.Ranks * o.Per, Now: a.now}
	if e := cred.Allows(c, ask); e != api.OK {
		return e
	}
	return a.used.Use(c, a.now)
}

// hold spawns a task for each rank, on cores of its own: all of them, or none.
func (a *Agent) hold(p place, o Order, fail int) (pids []int, e api.Errno) {
	ranks, e := a.cores.Reserve(p.number(), cores.Wish{Ranks: o.Ranks, Per: o.Per, Dist: o.Dist})
	if e != api.OK {
		return nil, api.ErrCores
	}
	defer func() {
		if e != api.OK {
			a.clear(p)
		}
	}()
	for rank, m := range ranks {
		if rank == fail {
			return nil, api.ErrSpawn
		}
		pid, e := a.spawn(p, rank, m, o.Limit)
		if e != api.OK {
			return nil, api.ErrSpawn
		}
		pids = append(pids, pid)
	}
	return pids, api.OK
}

// spawn spawns a rank's task.
func (a *Agent) spawn(p place, rank int, m mask.Mask, limit int) (int, api.Errno) {
	pid, e := a.tasks.Spawn(api.Task{Job: p.job, Epoch: p.epoch, Step: p.step, Rank: rank, Cores: m.List()})
	if e == api.OK {
		a.terms[pid] = term{limit: limit}
	}
	return pid, e
}

// isBusy says whether there is a task of the message's job, in its epoch.
func (a *Agent) isBusy(m api.Msg) bool {
	return slices.ContainsFunc(a.tasks.List(), func(x api.Task) bool { return x.Job == m.Job && x.Epoch == m.Epoch })
}

// codeOf is the code by which a prolog, or an epilog, ends.
func codeOf(c Choice) int {
	if !isWithin(c.Code, 0, maxCode) {
		return otherCode
	}
	return c.Code
}
