package audit

import (
	"slices"

	"roundhouse/agent"
	"roundhouse/api"
	"roundhouse/journal"
	"roundhouse/mask"
	"roundhouse/rec"
)

// sight is what is seen of a node at one moment.
type sight struct {
	up    bool
	tasks []api.Task
	free  mask.Mask
	state rec.State
	log   string
}

// see is what is seen of a.
func see(a *agent.Agent) sight {
	return sight{up: !a.Down(), tasks: a.Tasks(), free: a.Free(), state: a.State(), log: a.Log()}
}

// verdict is what is not sound of a cluster of these nodes: of the nodes, one by one, ahead of what was seen of it, by its error.
func verdict(nodes []sight, seen api.Errno) api.Errno {
	for _, s := range nodes {
		if e := s.check(); e != api.OK {
			return e
		}
	}
	if seen != api.OK {
		return api.ErrForm
	}
	return api.OK
}

// check is what is not sound of a node.
func (s sight) check() api.Errno {
	owners := ownersOf(s.tasks)
	switch {
	case areShared(owners) || s.up && areFree(owners, s.free):
		return api.ErrCores
	case !s.up:
		// What a node that is down knows is in its log alone.
		return api.OK
	case !isSame(s.state, said(s.log)):
		return api.ErrState
	case !slices.Equal(pidsOf(s.tasks), living(s.state)):
		return api.ErrSpawn
	}
	return api.OK
}

// areShared says whether a core has two owners, which stand by their cores.
func areShared(owners []Owner) bool {
	core := -1
	for _, o := range owners {
		if o.Core == core {
			return true
		}
		core = o.Core
	}
	return false
}

// areFree says whether a core that has an owner is free.
func areFree(owners []Owner, free mask.Mask) bool {
	return slices.ContainsFunc(owners, func(o Owner) bool { return free.Has(o.Core) })
}

// said is the state that a log's records make.
func said(log string) rec.State {
	var l []api.Rec
	entries, _ := journal.Read(log)
	for _, entry := range entries {
		r, _ := rec.Decode(entry.Text)
		l = append(l, r)
	}
	s, _ := rec.Fold(l)
	return s
}

// isSame says whether two states are the same.
func isSame(s, o rec.State) bool {
	return s.Drained == o.Drained && slices.Equal(s.Jobs, o.Jobs) && slices.EqualFunc(s.Steps, o.Steps, isSameStep)
}

// isSameStep says whether two steps are the same.
func isSameStep(s, o rec.Step) bool {
	return s.Job == o.Job && s.Epoch == o.Epoch && s.Step == o.Step && s.Phase == o.Phase && s.Code == o.Code &&
		slices.Equal(s.Pids, o.Pids)
}

// pidsOf is the Pids of an agent's tasks, rising, as these stand by them.
func pidsOf(tasks []api.Task) []int {
	var pids []int
	for _, x := range tasks {
		pids = append(pids, x.Pid)
	}
	return pids
}

// living is the Pids of the steps that are held, or run, rising.
func living(s rec.State) []int {
	var pids []int
	for _, x := range s.Steps {
		if x.Phase == rec.StepHeld || x.Phase == rec.StepRuns {
			pids = append(pids, x.Pids...)
		}
	}
	slices.Sort(pids)
	return pids
}
