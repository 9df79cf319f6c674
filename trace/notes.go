package trace

import (
	"slices"

	"roundhouse/rec"
	"roundhouse/world"
)

const controller = -1

// mark is an event, but for its Arg. Of a node's job as a whole it has no step, and of the controller's decisions no node.
type mark struct {
	kind  int
	node  int
	job   int
	epoch int
	step  int
}

// markOf is the mark that an event of that kind has, of e's job, epoch, node and step.
func markOf(kind int, e world.Event) mark {
	m := mark{kind: kind, node: e.Node, job: e.Job, epoch: e.Epoch, step: e.Step}
	if isOfJob(kind) {
		m.step = 0
	}
	if isOfController(kind) {
		m.node = controller
	}
	return m
}

// notes are the Args of events, by their marks.
type notes map[mark]int

// add notes an event.
func (n notes) add(e world.Event) {
	n[markOf(e.Kind, e)] = e.Arg
}

// arg is the Arg of the event of that kind, of e's job, epoch, node and step, and whether there is one.
func (n notes) arg(kind int, e world.Event) (int, bool) {
	arg, is := n[markOf(kind, e)]
	return arg, is
}

// have says whether there is an event of one of the kinds, of e's job, epoch, node and step.
func (n notes) have(e world.Event, kinds ...int) bool {
	return slices.ContainsFunc(kinds, func(kind int) bool {
		_, is := n.arg(kind, e)
		return is
	})
}

// isOfJob says whether events of that kind are of a job as a whole, and not of a step.
func isOfJob(kind int) bool {
	return isOneOf(kind, rec.Prolog, rec.Epilog, rec.Void)
}

// isOfController says whether events of that kind are the controller's, and no node's.
func isOfController(kind int) bool {
	return isOneOf(kind, world.Goes, world.Code)
}

// isOneOf says whether it is one of the kinds.
func isOneOf(kind int, kinds ...int) bool {
	return slices.Contains(kinds, kind)
}
