package ctl

import (
	"roundhouse/api"
	"roundhouse/tally"
)

// round is what is said to each of some nodes.
type round struct {
	nodes []int
	words []word
}

// word is a message, but for whom it is to.
type word struct {
	kind int
	step int
}

// messages yields what is to be said of a job, without the launches' texts.
func (j *job) messages(yield func(m api.Msg) bool) {
	for _, r := range j.rounds() {
		for _, node := range r.nodes {
			for _, w := range r.words {
				if !yield(api.Msg{Kind: w.kind, From: controller, To: node, Job: j.id, Epoch: j.epoch, Step: w.step}) {
					return
				}
			}
		}
	}
}

// rounds is what is to be said of a job, by its phase.
func (j *job) rounds() []round {
	switch j.phase {
	case Starts:
		return []round{{j.without(j.ready), []word{{kind: api.MsgProlog}}}}
	case Runs:
		var all []round
		for step := range j.tallies {
			all = append(all, j.roundOf(step))
		}
		return all
	case Finishes:
		return []round{{j.without(j.gone), append(j.aborts(), word{kind: api.MsgFinish})}}
	}
	return nil
}

// roundOf is what is to be said of a step of a job that runs; nothing, if it was not launched, as nobody is missing then.
func (j *job) roundOf(step int) round {
	t := j.tallies[step]
	switch t.State() {
	case tally.Open:
		return round{t.Missing(), []word{{api.MsgLaunch, step}}}
	case tally.Go:
		words := []word{{api.MsgRelease, step}}
		if j.asked {
			words = append(words, word{api.MsgCancel, step})
		}
		return round{t.Missing(), words}
	case tally.Refused:
		return round{j.Nodes, []word{{api.MsgAbort, step}}}
	}
	return round{}
}

// aborts is the words for the steps that were refused: a node may hold one of them still.
func (j *job) aborts() []word {
	var words []word
	for step, t := range j.tallies {
		if t.State() == tally.Refused {
			words = append(words, word{api.MsgAbort, step})
		}
	}
	return words
}
