package trace

import (
	"iter"

	"roundhouse/api"
	"roundhouse/dag"
	"roundhouse/rec"
	"roundhouse/world"
)

const (
	refused = 255 // the code of a step that was refused
	maxCode = 255
)

// judge says whether events may be, by what was seen ahead of them.
type judge struct {
	jobs []api.Job
	seen notes
}

// verdicts yields, event by event, whether it may be behind those ahead of it.
func verdicts(jobs []api.Job, l []world.Event) iter.Seq[api.Errno] {
	return func(yield func(e api.Errno) bool) {
		j := judge{jobs: jobs, seen: notes{}}
		for _, e := range l {
			if !yield(j.verdict(e)) {
				return
			}
			j.seen.add(e)
		}
	}
}

// verdict says whether e may be.
func (j judge) verdict(e world.Event) api.Errno {
	switch {
	case !mayBeTold(j.jobs, e):
		return api.ErrForm
	case !j.mayBe(e):
		return api.ErrState
	}
	return api.OK
}

// mayBe says whether e, which may be told, may be.
func (j judge) mayBe(e world.Event) bool {
	switch e.Kind {
	case rec.Prolog, rec.Void:
		return !j.seen.have(e, rec.Prolog, rec.Void)
	case rec.Held:
		return j.isUp(e) && !j.seen.have(e, rec.Held, rec.Refused)
	case rec.Refused:
		return j.isUp(e) && !j.seen.have(e, rec.Held, rec.Refused, world.Goes)
	case rec.Released:
		return j.isHeld(e) && j.seen.have(e, world.Goes)
	case rec.Aborted:
		return j.isHeld(e) && !j.seen.have(e, world.Goes)
	case rec.Ended:
		return j.seen.have(e, rec.Released) && !j.seen.have(e, rec.Ended)
	case rec.Epilog:
		return j.seen.have(e, rec.Prolog) && !j.seen.have(e, rec.Epilog) && j.isFree(e)
	case world.Goes:
		return !j.seen.have(e, world.Goes, world.Code) && j.isHeldByAll(e) && j.edgesHold(e)
	}
	return !j.seen.have(e, world.Code) && j.codeMayBe(e)
}

// isUp says whether the job is up on e's node.
func (j judge) isUp(e world.Event) bool {
	arg, is := j.seen.arg(rec.Prolog, e)
	return is && arg == 0 && !j.seen.have(e, rec.Epilog)
}

// isHeld says whether e's node holds the step, and has neither released nor aborted it.
func (j judge) isHeld(e world.Event) bool {
	return j.seen.have(e, rec.Held) && !j.seen.have(e, rec.Released, rec.Aborted)
}

// isFree says whether each step that e's node held is over there.
func (j judge) isFree(e world.Event) bool {
	for step := range j.jobs[e.Job-1].Steps {
		e.Step = step
		if j.seen.have(e, rec.Held) && !j.seen.have(e, rec.Aborted, rec.Ended) {
			return false
		}
	}
	return true
}

// isHeldByAll says whether all of the job's nodes have held the step.
func (j judge) isHeldByAll(e world.Event) bool {
	for _, node := range j.jobs[e.Job-1].Nodes {
		e.Node = node
		if !j.seen.have(e, rec.Held) {
			return false
		}
	}
	return true
}

// edgesHold says whether all that the step waits for ended as its edges say.
func (j judge) edgesHold(e world.Event) bool {
	for _, edge := range j.jobs[e.Job-1].Steps[e.Step].After {
		e.Step = edge.Step
		code, is := j.seen.arg(world.Code, e)
		if !is {
			code = dag.Open
		}
		if !holds(edge.Kind, code) {
			return false
		}
	}
	return true
}

// codeMayBe says whether e's Arg may be the step's code.
func (j judge) codeMayBe(e world.Event) bool {
	if !j.seen.have(e, world.Goes) {
		return e.Arg == refused || e.Arg == dag.Skipped
	}
	greatest, all := j.greatest(e)
	return all && e.Arg == greatest
}

// greatest is the greatest code by which the step ended on the job's nodes, and whether it ended on all of them.
func (j judge) greatest(e world.Event) (int, bool) {
	greatest := 0
	for i, node := range j.jobs[e.Job-1].Nodes {
		e.Node = node
		code, is := j.seen.arg(rec.Ended, e)
		if !is {
			return 0, false
		}
		// The first one counts as it is: all of them may be below 0.
		if i == 0 || code > greatest {
			greatest = code
		}
	}
	return greatest, true
}

// holds says whether an edge of that kind holds, by its step's code.
func holds(kind, code int) bool {
	switch kind {
	case api.AfterOK:
		return code == 0
	case api.AfterAny:
		return code != dag.Open
	}
	return code >= 1 && code <= maxCode
}
