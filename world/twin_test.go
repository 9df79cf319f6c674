package world_test

import (
	"cmp"
	"slices"

	"roundhouse/agent"
	"roundhouse/api"
	"roundhouse/ctl"
	"roundhouse/dag"
	"roundhouse/journal"
	"roundhouse/net"
	"roundhouse/rec"
	"roundhouse/tally"
	"roundhouse/wire"
	"roundhouse/world"
)

// twin is a world by the document's words: it reads each log as a whole, ahead of an op and behind it.
type twin struct {
	now    int
	nodes  []*agent.Agent
	ctl    *ctl.Ctl
	net    *net.Net
	given  []api.Job
	events []world.Event
}

func newTwin(c world.Config) *twin {
	m := &twin{ctl: ctl.New(c.Key), net: net.New(200)}
	for i, l := range c.Layouts {
		m.nodes = append(m.nodes, agent.New(agent.Config{ID: i, Layout: l, Key: c.Key, Grace: c.Grace, Kill: c.Kill}))
	}
	return m
}

// mod is i modulo k.
func mod(i, k int) int { return (i%k + k) % k }

func (m *twin) do(o world.Op) bool {
	said, jobs := m.said(), m.jobs()
	done := m.act(o)
	for i, l := range m.said() {
		for _, e := range l[len(said[i]):] {
			r, _ := rec.Decode(e.Text)
			m.events = append(m.events, world.Event{Kind: r.Kind, Node: i, Job: r.Job, Epoch: r.Epoch, Step: r.Step, Arg: r.Arg})
		}
	}
	for i, j := range m.jobs() {
		if i >= len(jobs) || jobs[i].Epoch != j.Epoch {
			continue
		}
		old := jobs[i]
		for k := range j.Codes {
			e := world.Event{Kind: world.Goes, Node: -1, Job: j.Id, Epoch: j.Epoch, Step: k}
			gone := []int{tally.Go, tally.Ended}
			if slices.Contains(gone, j.Votes[k]) && !slices.Contains(gone, old.Votes[k]) {
				m.events = append(m.events, e)
			}
			if j.Codes[k] != dag.Open && old.Codes[k] == dag.Open {
				e.Kind, e.Arg = world.Code, j.Codes[k]
				m.events = append(m.events, e)
			}
		}
	}
	return done
}

// said is what the nodes' logs say.
func (m *twin) said() [][]journal.Entry {
	var all [][]journal.Entry
	for _, a := range m.nodes {
		l, _ := journal.Read(a.Log())
		all = append(all, l)
	}
	return all
}

func (m *twin) jobs() []ctl.Job {
	var all []ctl.Job
	for i := range m.ctl.Jobs() {
		j, _ := m.ctl.Job(i + 1)
		all = append(all, j)
	}
	return all
}

func (m *twin) act(o world.Op) bool {
	a := m.nodes[mod(o.A, len(m.nodes))]
	switch o.Do {
	case submit:
		_, e := m.ctl.Submit(o.J)
		if e == api.OK {
			m.given = append(m.given, o.J)
		}
		return e == api.OK
	case tick:
		m.now++
		for _, a := range m.nodes {
			a.Tick(m.now)
		}
	case send:
		m.net.Send(m.ctl.Outbox(m.now))
	case deliver:
		return m.come(o.A, agent.Choice{Code: o.B, Fail: o.C - 1, Tear: -1})
	case tear:
		return m.come(o.A, agent.Choice{Code: 0, Fail: -1, Tear: max(0, o.B)})
	case drop:
		return m.net.Drop(o.A)
	case twice:
		return m.net.Twice(o.A)
	case exit:
		return m.leave(a, o.B, mod(o.C, 256), -1)
	case cut:
		return m.leave(a, o.B, 0, max(0, o.C))
	case crash:
		defer a.Crash()
		return !a.Down()
	case bringUp:
		if !a.Down() {
			return false
		}
		m.net.Send(a.Recover())
		a.Tick(m.now)
	case cancel:
		return m.ctl.Cancel(o.A) == api.OK
	default:
		return false
	}
	return true
}

// come has a message come.
func (m *twin) come(i int, c agent.Choice) bool {
	s, is := m.net.Take(i)
	if !is {
		return false
	}
	x, _ := wire.Decode(s)
	if x.To == -1 {
		m.ctl.Deliver(s)
	} else if x.To < len(m.nodes) {
		m.net.Send(m.nodes[x.To].Deliver(s, c))
	}
	return true
}

// leave has a running task exit.
func (m *twin) leave(a *agent.Agent, k, code, at int) bool {
	l := slices.DeleteFunc(a.Tasks(), func(x api.Task) bool { return x.State != api.Running })
	slices.SortFunc(l, func(x, y api.Task) int { return cmp.Compare(x.Pid, y.Pid) })
	if len(l) == 0 || a.Down() {
		return false
	}
	m.net.Send(a.Exit(l[mod(k, len(l))].Pid, code, at))
	return true
}
