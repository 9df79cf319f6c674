package agent

import (
	"roundhouse/acct"
	"roundhouse/api"
	"roundhouse/ladder"
	"roundhouse/mask"
	"roundhouse/rec"
)

const (
	sigTerm = 15
	sigKill = 9
	killed  = 137 // the code of who exits by sigKill

	askedStage  = 2 // a ladder's stages
	killedStage = 3
	notAsked    = -1
)

// place is which step something is of.
type place struct {
	job   int
	epoch int
	step  int
}

// number is the step's, by which it has cores.
func (p place) number() int {
	return 256*p.job + 16*p.epoch + p.step
}

func placeOfMsg(m api.Msg) place   { return place{m.Job, m.Epoch, m.Step} }
func placeOfTask(x api.Task) place { return place{x.Job, x.Epoch, x.Step} }
func placeOfStep(s rec.Step) place { return place{s.Job, s.Epoch, s.Step} }

// living yields the steps that are held, or run, as the state has them.
func (a *Agent) living(yield func(s rec.Step) bool) {
	for _, s := range a.state.Steps {
		lives := s.Phase == rec.StepHeld || s.Phase == rec.StepRuns
		if lives && !yield(s) {
			return
		}
	}
}

// tasksOf is the tasks of a step.
func (a *Agent) tasksOf(p place) []api.Task {
	var l []api.Task
	for _, x := range a.tasks.List() {
		if placeOfTask(x) == p {
			l = append(l, x)
		}
	}
	return l
}

// coresOf is the cores of a step's tasks.
func (a *Agent) coresOf(p place) mask.Mask {
	var all mask.Mask
	for _, x := range a.tasksOf(p) {
		m, _ := mask.Of(x.Cores)
		all = all.Or(m)
	}
	return all
}

// start releases those of a step's tasks that are held.
func (a *Agent) start(p place) {
	for _, x := range a.tasksOf(p) {
		if a.tasks.Release(x.Pid) == api.OK {
			a.terms[x.Pid] = term{limit: a.terms[x.Pid].limit, from: a.now}
		}
	}
}

// cancel asks for a step's end; who asks again does not put it off.
func (a *Agent) cancel(p place) {
	if _, is := a.asked[p.number()]; !is {
		a.asked[p.number()] = a.now
	}
	a.signal(p, sigTerm)
}

// signal signals a step's tasks.
func (a *Agent) signal(p place, sig int) {
	for _, x := range a.tasksOf(p) {
		a.tasks.Signal(x.Pid, sig)
	}
}

// press signals a step's tasks as it is due at a stage of their ladder.
func (a *Agent) press(p place, stage int) {
	switch stage {
	case askedStage:
		a.signal(p, sigTerm)
	case killedStage:
		a.signal(p, sigKill)
	}
}

// ladderOf is the ladder of a step that runs.
func (a *Agent) ladderOf(p place) (ladder.Plan, ladder.Run) {
	plan := ladder.Plan{Grace: a.config.Grace, Kill: a.config.Kill}
	run := ladder.Run{From: a.now, Cancel: notAsked}
	for _, x := range a.tasksOf(p) {
		t := a.terms[x.Pid]
		plan.Limit, run.From = t.limit, min(run.From, t.from)
	}
	if at, is := a.asked[p.number()]; is {
		run.Cancel = at
	}
	return plan, run
}

// note adds up what a task that has just exited used.
func (a *Agent) note(x api.Task) {
	a.book.Note(acct.Use{Job: x.Job, Cores: len(x.Cores), From: a.terms[x.Pid].from, To: a.now})
}

// remove kills a task, if it has not exited, and reaps it.
func (a *Agent) remove(x api.Task) {
	a.tasks.Signal(x.Pid, sigKill)
	// One that was held has exited by that, and has used nothing.
	if a.tasks.Exit(x.Pid, killed) == api.OK {
		a.note(x)
	}
	a.tasks.Reap(x.Pid)
	delete(a.terms, x.Pid)
}

// clear removes a step's tasks, and makes its cores free.
func (a *Agent) clear(p place) {
	for _, x := range a.tasksOf(p) {
		a.remove(x)
	}
	a.cores.Release(p.number())
	delete(a.asked, p.number())
}
