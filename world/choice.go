package world

import (
	"roundhouse/agent"
	"roundhouse/api"
	"roundhouse/wire"
)

const (
	nobody = -1  // the rank that fails where none does
	untorn = -1  // where a record is torn that is not
	codes  = 256 // how many codes there are by which a task may exit
)

// choices are what a script may choose, by an op's Do.
func choices() map[int]func(w *World, o Op) bool {
	return map[int]func(w *World, o Op) bool{
		0:  (*World).submit,
		1:  (*World).tick,
		2:  (*World).send,
		3:  (*World).deliver,
		4:  (*World).deliverTorn,
		5:  (*World).drop,
		6:  (*World).twice,
		7:  (*World).exit,
		8:  (*World).exitTorn,
		9:  (*World).crash,
		10: (*World).bringUp,
		11: (*World).cancel,
	}
}

// submit gives a job to the controller.
func (w *World) submit(o Op) bool {
	if _, e := w.ctl.Submit(o.J); e != api.OK {
		return false
	}
	w.given = append(w.given, apart(o.J))
	return true
}

// tick makes it one tick later, for all.
func (w *World) tick(Op) bool {
	if w.now >= lastTick {
		return false
	}
	w.now++
	for _, m := range w.members {
		m.Tick(w.now)
	}
	return true
}

// send sends what the controller has to say.
func (w *World) send(Op) bool {
	w.net.Send(w.ctl.Outbox(w.now))
	return true
}

// deliver has a message come.
func (w *World) deliver(o Op) bool {
	return w.come(o.A, agent.Choice{Code: o.B, Fail: o.C - 1, Tear: untorn})
}

// deliverTorn has a message come; the record that is written of it is torn.
func (w *World) deliverTorn(o Op) bool {
	return w.come(o.A, agent.Choice{Fail: nobody, Tear: max(o.B, 0)})
}

// come has the message at i's place come to whom it is for.
func (w *World) come(i int, c agent.Choice) bool {
	s, is := w.net.Take(i)
	m, e := wire.Decode(s)
	switch {
	case e != api.OK:
		// What is no message is for nobody.
	case m.To == controller:
		w.ctl.Deliver(s)
	default:
		w.net.Send(w.Node(m.To).Deliver(s, c))
	}
	return is
}

// drop loses a message.
func (w *World) drop(o Op) bool {
	return w.net.Drop(o.A)
}

// twice doubles a message.
func (w *World) twice(o Op) bool {
	return w.net.Twice(o.A)
}

// exit has a task exit.
func (w *World) exit(o Op) bool {
	return w.end(o, place(o.C, codes), untorn)
}

// exitTorn has a task exit; the record that is written of it is torn.
func (w *World) exitTorn(o Op) bool {
	return w.end(o, 0, max(o.C, 0))
}

// end has the op's running task exit.
func (w *World) end(o Op, code, tear int) bool {
	a := w.nodeOf(o)
	pids := running(a)
	if a.Down() || len(pids) == 0 {
		return false
	}
	w.net.Send(a.Exit(pids[place(o.B, len(pids))], code, tear))
	return true
}

// crash has the op's node crash.
func (w *World) crash(o Op) bool {
	a := w.nodeOf(o)
	if a.Down() {
		return false
	}
	a.Crash()
	return true
}

// bringUp has the op's node recover, and be at the world's tick.
func (w *World) bringUp(o Op) bool {
	a := w.nodeOf(o)
	if a == nil || !a.Down() {
		return false
	}
	w.net.Send(a.Recover())
	a.Tick(w.now)
	return true
}

// cancel asks for a job's end.
func (w *World) cancel(o Op) bool {
	return w.ctl.Cancel(o.A) == api.OK
}

// nodeOf is the op's node; nil, if there are none.
func (w *World) nodeOf(o Op) *agent.Agent {
	if w.Nodes() == 0 {
		return nil
	}
	return w.Node(place(o.A, w.Nodes()))
}

// running is the Pids of a node's running tasks.
func running(a *agent.Agent) []int {
	var pids []int
	for _, x := range a.Tasks() {
		if x.State == api.Running {
			pids = append(pids, x.Pid)
		}
	}
	return pids
}

// place is i modulo k, from 0 on.
func place(i, k int) int {
	if i %= k; i < 0 {
		i += k
	}
	return i
}
