package ctl

import (
	"slices"

	"roundhouse/api"
	"roundhouse/dag"
	"roundhouse/tally"
)

const (
	refused   = 255 // the code of a step that was refused
	lastEpoch = 3   // a job whose prolog fails in it is not tried again
	noTally   = -1  // as a tally's state
)

// job is what was submitted, and how far it is.
type job struct {
	api.Job
	id    int
	asked bool // whether its end was asked: it stays so in each epoch
	trial
}

// trial is how far a job is in its epoch.
type trial struct {
	epoch   int
	phase   int
	fate    int
	code    int
	codes   []int
	tallies []*tally.Tally // by step; nil of one that was not launched
	ready   [api.MaxNodes]bool
	gone    [api.MaxNodes]bool
}

// newJob is a job that starts.
func newJob(id int, j api.Job) *job {
	j.Nodes, j.Steps = slices.Clone(j.Nodes), slices.Clone(j.Steps)
	for i, s := range j.Steps {
		j.Steps[i].After = slices.Clone(s.After)
	}
	return &job{Job: j, id: id, trial: newTrial(0, len(j.Steps))}
}

// newTrial is an epoch of a job of so many steps, in which nothing was done so far.
func newTrial(epoch, steps int) trial {
	return trial{epoch: epoch, codes: slices.Repeat([]int{dag.Open}, steps), tallies: make([]*tally.Tally, steps)}
}

// tallyOf is a step's tally; nil, if there is none.
func (j *job) tallyOf(step int) *tally.Tally {
	if step >= len(j.tallies) {
		return nil
	}
	return j.tallies[step]
}

// isReady is told how a node's prolog ended.
func (j *job) isReady(node, arg int) {
	if arg != 0 {
		j.finish(retried(j.epoch), 0)
		return
	}
	j.ready[node] = true
	if len(j.without(j.ready)) == 0 {
		j.phase = Runs
		j.look()
	}
}

// counts is told what a tally says to that which a node said, and is whether it counts.
func (j *job) counts(e api.Errno) bool {
	if e == api.OK {
		j.look()
	}
	return e == api.OK
}

// isGone is told that a node is done with the job in this epoch.
func (j *job) isGone(node int) {
	j.gone[node] = true
	switch {
	case len(j.without(j.gone)) > 0:
		// The others are waited for: each node is to be done with it.
	case j.fate == Requeued:
		j.trial = newTrial(j.epoch+1, len(j.Steps))
	default:
		j.phase = Over
	}
}

// look has follow what follows from what is known of a job that runs.
func (j *job) look() {
	for step, t := range j.tallies {
		if j.codes[step] == dag.Open {
			j.codes[step] = j.codeOf(t)
		}
	}
	j.codes, _ = dag.Settle(j.Steps, j.codes)
	ready, _ := dag.Ready(j.Steps, j.codes)
	for _, step := range ready {
		if j.tallies[step] == nil {
			j.tallies[step] = tally.New(j.Nodes)
		}
	}
	if code, over := dag.Over(j.Steps, j.codes); over {
		j.finish(fateOf(j.asked || code != 0), code)
	}
}

// codeOf is the code of a step that was Open, by its tally.
func (j *job) codeOf(t *tally.Tally) int {
	state := stateOf(t)
	switch {
	case state == noTally && j.asked:
		return dag.Skipped
	case state == tally.Refused:
		return refused
	case state == tally.Ended:
		return t.Code()
	}
	return dag.Open
}

// finish makes it a job that finishes.
func (j *job) finish(fate, code int) {
	j.phase, j.fate, j.code = Finishes, fate, code
}

// without is the job's nodes that are not among those.
func (j *job) without(those [api.MaxNodes]bool) []int {
	var rest []int
	for _, node := range j.Nodes {
		if !those[node] {
			rest = append(rest, node)
		}
	}
	return rest
}

// stateOf is a tally's state, or that there is none.
func stateOf(t *tally.Tally) int {
	if t == nil {
		return noTally
	}
	return t.State()
}

// retried is the fate of a job whose prolog failed.
func retried(epoch int) int {
	if epoch < lastEpoch {
		return Requeued
	}
	return Failed
}

// fateOf is the fate of a job whose steps are over.
func fateOf(failed bool) int {
	if failed {
		return Failed
	}
	return Fine
}
