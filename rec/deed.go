package rec

import (
	"slices"

	"roundhouse/api"
)

// deed is what records of a kind do: why one may not come, if it may not, and what it makes of the state.
type deed struct {
	check func(s *State, r api.Rec) api.Errno
	do    func(s *State, r api.Rec)
}

// deeds are what records do, by their kinds.
func deeds() map[int]deed {
	return map[int]deed{
		Prolog:   {checkProlog, doProlog},
		Held:     {checkHeld, addStep(StepHeld)},
		Refused:  {checkNewStep, addStep(StepAborted)},
		Released: {checkStep(StepHeld), moveStep(StepRuns)},
		Aborted:  {checkStep(StepHeld), moveStep(StepAborted)},
		Ended:    {checkStep(StepRuns), doEnded},
		Epilog:   {checkEpilog, doEpilog},
		Void:     {checkNewJob, addJob(JobGone)},
	}
}

// write makes s the state behind r; with an error s stays as it is.
func write(s *State, r api.Rec, all map[int]deed) api.Errno {
	if !mayBe(r) {
		return api.ErrArg
	}
	d := all[r.Kind]
	if e := d.check(s, r); e != api.OK {
		return e
	}
	d.do(s, r)
	return api.OK
}

// checkNewJob holds if the job was not there in this epoch, nor in a later one.
func checkNewJob(s *State, r api.Rec) api.Errno {
	return unless(!slices.ContainsFunc(s.Jobs, func(x Job) bool { return x.Job == r.Job && x.Epoch >= r.Epoch }))
}

func checkProlog(s *State, r api.Rec) api.Errno {
	if e := checkNewJob(s, r); e != api.OK {
		return e
	}
	if s.Drained {
		return api.ErrDrained
	}
	return api.OK
}

// checkNewStep holds if the job is up, and the step is not there.
func checkNewStep(s *State, r api.Rec) api.Errno {
	at := jobAt(s, r.Job, r.Epoch)
	return unless(at >= 0 && s.Jobs[at].Phase == JobUp && stepAt(s, r.Job, r.Epoch, r.Step) < 0)
}

func checkHeld(s *State, r api.Rec) api.Errno {
	if e := checkNewStep(s, r); e != api.OK {
		return e
	}
	return unless(!slices.ContainsFunc(s.Steps, func(x Step) bool { return hasOneOf(x.Pids, r.List) }))
}

// checkStep tells what holds if the step is in that phase.
func checkStep(phase int) func(s *State, r api.Rec) api.Errno {
	return func(s *State, r api.Rec) api.Errno {
		at := stepAt(s, r.Job, r.Epoch, r.Step)
		return unless(at >= 0 && s.Steps[at].Phase == phase)
	}
}

func checkEpilog(s *State, r api.Rec) api.Errno {
	at := jobAt(s, r.Job, r.Epoch)
	return unless(at >= 0 && s.Jobs[at].Phase != JobGone && !Alive(*s, r.Job, r.Epoch))
}

// addJob tells what puts a job in that phase behind all.
func addJob(phase int) func(s *State, r api.Rec) {
	return func(s *State, r api.Rec) {
		s.Jobs = append(s.Jobs, Job{Job: r.Job, Epoch: r.Epoch, Phase: phase})
	}
}

func doProlog(s *State, r api.Rec) {
	phase := JobUp
	if r.Arg != 0 {
		phase, s.Drained = JobFailed, true
	}
	addJob(phase)(s, r)
}

// addStep tells what puts a step in that phase behind all.
func addStep(phase int) func(s *State, r api.Rec) {
	return func(s *State, r api.Rec) {
		s.Steps = append(s.Steps, Step{Job: r.Job, Epoch: r.Epoch, Step: r.Step, Phase: phase, Pids: slices.Clone(r.List)})
	}
}

// moveStep tells what brings the step, which is there, into that phase.
func moveStep(phase int) func(s *State, r api.Rec) {
	return func(s *State, r api.Rec) {
		s.Steps[stepAt(s, r.Job, r.Epoch, r.Step)].Phase = phase
	}
}

func doEnded(s *State, r api.Rec) {
	ended := &s.Steps[stepAt(s, r.Job, r.Epoch, r.Step)]
	ended.Phase, ended.Code = StepEnded, r.Arg
}

func doEpilog(s *State, r api.Rec) {
	s.Jobs[jobAt(s, r.Job, r.Epoch)].Phase = JobGone
	if r.Arg != 0 {
		s.Drained = true
	}
}

// unless is ErrState, unless it holds.
func unless(holds bool) api.Errno {
	if holds {
		return api.OK
	}
	return api.ErrState
}

// hasOneOf says whether one of pids is in l, which rises.
func hasOneOf(pids []int, l []int) bool {
	return slices.ContainsFunc(pids, func(pid int) bool {
		_, is := slices.BinarySearch(l, pid)
		return is
	})
}

// jobAt is the place of the first job of these numbers, or -1.
func jobAt(s *State, job, epoch int) int {
	return slices.IndexFunc(s.Jobs, func(x Job) bool { return x.Job == job && x.Epoch == epoch })
}

// stepAt is the place of the first step of these numbers, or -1.
func stepAt(s *State, job, epoch, step int) int {
	return slices.IndexFunc(s.Steps, func(x Step) bool { return x.Job == job && x.Epoch == epoch && x.Step == step })
}
