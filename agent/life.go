package agent

import (
	"slices"

	"roundhouse/api"
	"roundhouse/journal"
	"roundhouse/ladder"
	"roundhouse/node"
	"roundhouse/rec"
	"roundhouse/wire"
)

// Exit is told that a task has exited, and is what it answers to that.
func (a *Agent) Exit(pid int, code int, tear int) []string {
	if a.Down() || a.tasks.Exit(pid, code) != api.OK {
		return nil
	}
	l := a.tasks.List()
	x := l[slices.IndexFunc(l, func(x api.Task) bool { return x.Pid == pid })]
	a.note(x)
	return a.settle(placeOfTask(x), tear)
}

// settle ends a step that runs, if all its tasks have exited; else there is no answer.
func (a *Agent) settle(p place, tear int) []string {
	var codes []int
	for _, x := range a.tasksOf(p) {
		if x.State != api.Exited {
			return nil
		}
		codes = append(codes, x.Code)
	}
	act, e := node.Exit(a.config.ID, a.state, api.Rec{Job: p.job, Epoch: p.epoch, Step: p.step}, codes)
	if e != api.OK || !a.write(act.Rec, tear) {
		return nil
	}
	a.clear(p)
	return []string{wire.Encode(act.Reply)}
}

// Tick makes it later, and signals the tasks for which it is time.
func (a *Agent) Tick(now int) {
	if a.Down() || !isWithin(now, a.now, api.MaxNum) {
		return
	}
	for s := range a.living {
		if s.Phase != rec.StepRuns {
			continue
		}
		p := placeOfStep(s)
		plan, run := a.ladderOf(p)
		for _, stage := range ladder.Between(plan, run, a.now, now) {
			a.press(p, stage)
		}
	}
	a.now = now
}

// Recover makes it up, where its log and its tasks say that it was, and is what it answers to what it finds.
func (a *Agent) Recover() []string {
	if a == nil || a.up {
		return nil
	}
	a.memory = blank(a.config.Layout)
	a.log = journal.Repair(a.log)
	a.state = said(a.log)
	a.removeStrays()
	for s := range a.living {
		p := placeOfStep(s)
		if s.Phase == rec.StepRuns {
			a.start(p)
		}
		a.cores.Take(p.number(), a.coresOf(p))
	}
	var out []string
	for s := range a.living {
		if s.Phase == rec.StepRuns {
			out = append(out, a.goOn(placeOfStep(s))...)
		}
	}
	a.up = true
	return out
}

// goOn ends a step that ran, or signals its tasks for which it was time meanwhile.
func (a *Agent) goOn(p place) []string {
	if out := a.settle(p, untorn); out != nil {
		return out
	}
	plan, run := a.ladderOf(p)
	for stage := range ladder.Stage(plan, run, a.now) + 1 {
		a.press(p, stage)
	}
	return nil
}

// removeStrays removes the tasks of which no step that lives knows.
func (a *Agent) removeStrays() {
	var known []int
	for s := range a.living {
		known = append(known, s.Pids...)
	}
	for _, x := range a.tasks.List() {
		if !slices.Contains(known, x.Pid) {
			a.remove(x)
		}
	}
}

// said is the state that a log's records make; as agents write them, all of them are such.
func said(log string) rec.State {
	var l []api.Rec
	entries, _ := journal.Read(log)
	for _, entry := range entries {
		r, _ := rec.Decode(entry.Text)
		l = append(l, r)
	}
	s, _ := rec.Fold(l)
	return s
}
