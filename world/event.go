package world

import (
	"strings"

	"roundhouse/agent"
	"roundhouse/ctl"
	"roundhouse/dag"
	"roundhouse/journal"
	"roundhouse/rec"
	"roundhouse/tally"
)

// member is a node's agent, and that of its log which was read.
type member struct {
	*agent.Agent
	read string
}

// news is what the agent's log says behind what was read of it.
func (m *member) news() []journal.Entry {
	log := m.Log()
	// A log grows behind what is good of it, so that no record has to be read twice.
	rest := strings.TrimPrefix(log, m.read)
	entries, good := journal.Read(rest)
	m.read = log[:len(log)-len(rest)+good]
	return entries
}

// look is the controller's jobs ahead of what is done; of what the logs say so far nothing is news any more.
func (w *World) look() []ctl.Job {
	// Who asks for an agent may have had it write.
	for _, m := range w.members {
		m.news()
	}
	var jobs []ctl.Job
	for id := range w.ctl.Jobs() {
		j, _ := w.ctl.Job(id + 1)
		jobs = append(jobs, j)
	}
	return jobs
}

// see notes what can be seen of what was done.
func (w *World) see(ahead []ctl.Job) {
	for node, m := range w.members {
		for _, entry := range m.news() {
			r, _ := rec.Decode(entry.Text)
			w.events = append(w.events, Event{Kind: r.Kind, Node: node, Job: r.Job, Epoch: r.Epoch, Step: r.Step, Arg: r.Arg})
		}
	}
	for _, was := range ahead {
		is, _ := w.ctl.Job(was.Id)
		w.events = append(w.events, decided(was, is)...)
	}
}

// decided is what the controller decided of a job's steps.
func decided(was, is ctl.Job) []Event {
	if was.Epoch != is.Epoch {
		return nil
	}
	var l []Event
	for step, code := range is.Codes {
		e := Event{Node: controller, Job: is.Id, Epoch: is.Epoch, Step: step}
		if !isGo(was.Votes[step]) && isGo(is.Votes[step]) {
			e.Kind = Goes
			l = append(l, e)
		}
		if was.Codes[step] == dag.Open && code != dag.Open {
			e.Kind, e.Arg = Code, code
			l = append(l, e)
		}
	}
	return l
}

// isGo says whether all voted yes, by a tally's state.
func isGo(state int) bool {
	return state == tally.Go || state == tally.Ended
}
