package ctl_test

import (
	"slices"

	"roundhouse/agent"
	"roundhouse/api"
	"roundhouse/cred"
	"roundhouse/ctl"
	"roundhouse/dag"
	"roundhouse/tally"
)

// said is what nodes said of a step, by the node: votes (1: yes), and codes.
type said struct{ votes, codes map[int]int }

// work is a job by the document's words; what follows is worked out each time of what was said.
type work struct {
	api.Job
	id, epoch, phase, fate, code int
	codes                        []int
	steps                        []*said
	ready, gone                  map[int]int
	asked                        bool
}

func newWork(id, epoch int, j api.Job, asked bool) *work {
	return &work{Job: j, id: id, epoch: epoch, codes: slices.Repeat([]int{-1}, len(j.Steps)), steps: make([]*said, len(j.Steps)), ready: map[int]int{}, gone: map[int]int{}, asked: asked}
}

// state is that of a step's tally.
func (w *work) state(step int) int {
	s := w.steps[step]
	if s == nil {
		return -1
	}
	yes := 0
	for _, v := range s.votes {
		if v == 0 {
			return tally.Refused
		}
		yes++
	}
	switch {
	case yes < len(w.Nodes):
		return tally.Open
	case len(s.codes) < len(w.Nodes):
		return tally.Go
	}
	return tally.Ended
}

func (w *work) look() {
	for i, s := range w.steps {
		switch {
		case w.codes[i] != -1:
		case w.state(i) == tally.Refused:
			w.codes[i] = 255
		case w.state(i) == tally.Ended:
			for _, code := range s.codes {
				w.codes[i] = max(w.codes[i], code)
			}
		case s == nil && w.asked:
			w.codes[i] = 256
		}
	}
	w.codes, _ = dag.Settle(w.Steps, w.codes)
	ready, _ := dag.Ready(w.Steps, w.codes)
	for _, i := range ready {
		if w.steps[i] == nil {
			w.steps[i] = &said{map[int]int{}, map[int]int{}}
		}
	}
	if slices.Contains(w.codes, -1) {
		return
	}
	w.phase = ctl.Finishes
	for _, code := range w.codes {
		if code < 256 {
			w.code = max(w.code, code)
		}
	}
	if w.asked || w.code > 0 {
		w.fate = ctl.Failed
	}
}

// hear is whether what a node says counts, and the job behind that.
func (w *work) hear(m api.Msg) (*work, bool) {
	if m.Epoch != w.epoch || m.To != -1 || !slices.Contains(w.Nodes, m.From) {
		return w, false
	}
	switch {
	case m.Kind == api.MsgReady && w.phase == ctl.Starts:
		w.start(m)
	case m.Kind == api.MsgVote && w.phase == ctl.Runs:
		return w, w.note(m, tally.Open, m.Arg, func(s *said) map[int]int { return s.votes })
	case m.Kind == api.MsgEnded && w.phase == ctl.Runs:
		return w, m.Arg < 256 && w.note(m, tally.Go, m.Arg, func(s *said) map[int]int { return s.codes })
	case m.Kind == api.MsgGone && w.phase == ctl.Finishes:
		w.gone[m.From] = 1
		if len(w.gone) == len(w.Nodes) && w.fate == ctl.Requeued {
			return newWork(w.id, w.epoch+1, w.Job, w.asked), true
		}
		if len(w.gone) == len(w.Nodes) {
			w.phase = ctl.Over
		}
	default:
		return w, false
	}
	return w, true
}

func (w *work) start(m api.Msg) {
	if m.Arg != 0 {
		w.phase, w.fate = ctl.Finishes, ctl.Requeued
		if w.epoch == 3 {
			w.fate = ctl.Failed
		}
		return
	}
	w.ready[m.From] = 1
	if len(w.ready) == len(w.Nodes) {
		w.phase = ctl.Runs
		w.look()
	}
}

// note writes down what a node says of a step whose tally is in that state, or that it says again.
func (w *work) note(m api.Msg, state, what int, in func(s *said) map[int]int) bool {
	if m.Step >= len(w.steps) || w.steps[m.Step] == nil {
		return false
	}
	if m.Kind == api.MsgVote && what != 1 {
		what = 0
	}
	l := in(w.steps[m.Step])
	if old, is := l[m.From]; is {
		return old == what
	}
	if w.state(m.Step) != state {
		return false
	}
	l[m.From] = what
	w.look()
	return true
}

// outbox is the messages to each node, in order.
func (w *work) outbox(now int) []api.Msg {
	var l []api.Msg
	add := func(kind, node, step int, text string) {
		l = append(l, api.Msg{Kind: kind, From: -1, To: node, Job: w.id, Epoch: w.epoch, Step: step, Text: text})
	}
	for _, node := range w.Nodes {
		if _, is := w.ready[node]; !is && w.phase == ctl.Starts {
			add(api.MsgProlog, node, 0, "")
		}
		if _, is := w.gone[node]; !is && w.phase == ctl.Finishes {
			for i := range w.steps {
				if w.state(i) == tally.Refused {
					add(api.MsgAbort, node, i, "")
				}
			}
			add(api.MsgFinish, node, 0, "")
		}
	}
	if w.phase != ctl.Runs {
		return l
	}
	for i, x := range w.Steps {
		c := api.Cred{Job: w.id, Epoch: w.epoch, Step: i, From: now, Until: now + 8, Nodes: w.Nodes, Cores: x.Ranks * x.Per}
		for _, node := range w.Nodes {
			switch w.state(i) {
			case tally.Open:
				if _, voted := w.steps[i].votes[node]; !voted {
					add(api.MsgLaunch, node, i, agent.Pack(agent.Order{Cred: cred.Sign(key, c), Ranks: x.Ranks, Per: x.Per, Dist: x.Dist, Limit: x.Limit}))
				}
			case tally.Go:
				if _, exited := w.steps[i].codes[node]; !exited {
					add(api.MsgRelease, node, i, "")
					if w.asked {
						add(api.MsgCancel, node, i, "")
					}
				}
			case tally.Refused:
				add(api.MsgAbort, node, i, "")
			}
		}
	}
	return l
}

// known is what is known of it.
func (w *work) known() ctl.Job {
	k := ctl.Job{Id: w.id, Epoch: w.epoch, Phase: w.phase, Fate: w.fate, Code: w.code, Codes: w.codes}
	for i := range w.steps {
		k.Votes = append(k.Votes, w.state(i))
	}
	return k
}
