package agent_test

import (
	"slices"

	"roundhouse/agent"
	"roundhouse/api"
	"roundhouse/cores"
	"roundhouse/cred"
	"roundhouse/journal"
	"roundhouse/mask"
	"roundhouse/node"
	"roundhouse/rec"
)

// proc is a task, with what is known of it.
type proc struct {
	api.Task
	sig, from, limit int
}

// spot is the job, epoch and step that something is of.
type spot [3]int

func (p proc) spot() spot { return spot{p.Job, p.Epoch, p.Step} }

// model is an agent by the document's words: its state is worked out of its records each time.
type model struct {
	config agent.Config
	down   bool
	now    int
	recs   []api.Rec
	tail   string // what a crash left of a record
	procs  []*proc
	pids   int
	ticks  map[int]int
	used   map[spot]int
	taken  map[int]int
	asked  map[spot]int
	last   api.Msg
	seen   map[string]int
}

func newModel(c agent.Config) *model {
	return &model{config: c, ticks: map[int]int{}, used: map[spot]int{}, taken: map[int]int{}, asked: map[spot]int{}, seen: map[string]int{}}
}

func (m *model) state() rec.State {
	s, _ := rec.Fold(m.recs)
	return s
}

// of is the tasks of a step.
func (m *model) of(at spot) []*proc {
	return slices.DeleteFunc(slices.Clone(m.procs), func(p *proc) bool { return p.spot() != at })
}

// free is the cores on which there is no task.
func (m *model) free() mask.Mask {
	all := cores.All(m.config.Layout)
	for _, p := range m.procs {
		taken, _ := mask.Of(p.Cores)
		all = all.Minus(taken)
	}
	return all
}

// write says whether it is up behind the record.
func (m *model) write(r api.Rec, tear int) bool {
	if tear < 0 {
		m.recs = append(m.recs, r)
		return true
	}
	m.tail = journal.Tear("", 0, rec.Encode(r), tear)
	m.down = true
	return false
}

// drop takes tasks out; the use of those that run is noted.
func (m *model) drop(gone func(p *proc) bool) {
	for _, p := range m.procs {
		if gone(p) && p.State == api.Running {
			m.ticks[p.Job] += len(p.Cores) * (m.now - p.from)
		}
	}
	m.procs = slices.DeleteFunc(m.procs, gone)
}

func (m *model) signal(at spot, sig int) {
	for _, p := range m.of(at) {
		if p.State == api.Running && p.sig != 9 {
			p.sig = sig
		}
	}
}

func (m *model) start(at spot) {
	for _, p := range m.of(at) {
		if p.State == api.Held {
			p.State, p.from = api.Running, m.now
		}
	}
}

// allows is whether a credential allows a launch, and is used by it.
func (m *model) allows(x api.Msg, o agent.Order) bool {
	c, e := cred.Open(m.config.Key, o.Cred)
	ask := cred.Ask{Job: x.Job, Epoch: x.Epoch, Step: x.Step, Node: m.config.ID, Cores: o.Ranks * o.Per, Now: m.now}
	if e != api.OK || cred.Allows(c, ask) != api.OK {
		return false
	}
	if upTo, is := m.taken[c.Job]; is && upTo >= c.Epoch {
		m.seen["revoked"]++
		return false
	}
	at := spot{c.Job, c.Epoch, c.Step}
	if m.used[at] > m.now {
		m.seen["replayed"]++
		return false
	}
	m.used[at] = c.Until
	return true
}

// launch is the Pids of the tasks that are spawned for a launch.
func (m *model) launch(x api.Msg, fail int) []int {
	o, e := agent.Unpack(x.Text)
	if e != api.OK || x.Step > 15 || x.Job > 1<<20 || !m.allows(x, o) {
		return nil
	}
	ranks, e := cores.Assign(m.config.Layout, cores.Wish{Free: m.free(), Ranks: o.Ranks, Per: o.Per, Dist: o.Dist})
	if e != api.OK {
		m.seen["no cores"]++
		return nil
	}
	if fail >= 0 && fail < o.Ranks {
		m.seen["a rank failed"]++
		m.pids += fail
		return nil
	}
	var pids []int
	for rank, c := range ranks {
		m.pids++
		pids = append(pids, m.pids)
		task := api.Task{Pid: m.pids, Job: x.Job, Epoch: x.Epoch, Step: x.Step, Rank: rank, Cores: c.List()}
		m.procs = append(m.procs, &proc{Task: task, limit: o.Limit})
	}
	return pids
}

func (m *model) deliver(x api.Msg, c agent.Choice) []api.Msg {
	if m.down || x.To != m.config.ID || x.From != -1 {
		return nil
	}
	f := node.Facts{Cred: api.ErrArg, Code: c.Code}
	if c.Code < 0 || c.Code > 255 {
		f.Code = 1
	}
	f.Busy = slices.ContainsFunc(m.procs, func(p *proc) bool { return p.Job == x.Job && p.Epoch == x.Epoch })
	_, known := rec.StepOf(m.state(), x.Job, x.Epoch, x.Step)
	job, up := rec.Find(m.state(), x.Job, x.Epoch)
	if x.Kind == api.MsgLaunch && !known && up && job.Phase == rec.JobUp {
		if f.Pids = m.launch(x, c.Fail); f.Pids != nil {
			f.Cred = api.OK
		}
	}
	act, e := node.Decide(m.config.ID, m.state(), x, f)
	if e != api.OK || act.Has && !m.write(act.Rec, c.Tear) {
		return nil
	}
	at := spot{x.Job, x.Epoch, x.Step}
	switch {
	case act.Start:
		m.start(at)
	case act.Kill:
		m.drop(func(p *proc) bool { return p.spot() == at })
	case act.Cancel:
		if _, is := m.asked[at]; !is {
			m.asked[at] = m.now
		}
		m.signal(at, 15)
	}
	if !act.Back {
		return nil
	}
	return []api.Msg{act.Reply}
}

func (m *model) exit(pid, code, tear int) []api.Msg {
	i := slices.IndexFunc(m.procs, func(p *proc) bool { return p.Pid == pid && p.State == api.Running })
	if m.down || i < 0 || code < 0 || code > 255 {
		return nil
	}
	p := m.procs[i]
	p.State, p.Code = api.Exited, code
	m.ticks[p.Job] += len(p.Cores) * (m.now - p.from)
	return m.end(p.spot(), tear)
}

// end ends a step, if all its tasks have exited.
func (m *model) end(at spot, tear int) []api.Msg {
	worst := 0
	for _, p := range m.of(at) {
		if p.State != api.Exited {
			return nil
		}
		worst = max(worst, p.Code)
	}
	r := api.Rec{Kind: rec.Ended, Job: at[0], Epoch: at[1], Step: at[2], Arg: worst}
	if !m.write(r, tear) {
		return nil
	}
	m.drop(func(p *proc) bool { return p.spot() == at })
	delete(m.asked, at)
	return []api.Msg{{Kind: api.MsgEnded, From: m.config.ID, To: -1, Job: at[0], Epoch: at[1], Step: at[2], Arg: worst}}
}

// running is the steps that run, in order.
func (m *model) running() []spot {
	var l []spot
	for _, s := range m.state().Steps {
		if s.Phase == rec.StepRuns {
			l = append(l, spot{s.Job, s.Epoch, s.Step})
		}
	}
	return l
}

// press signals what is to be asked to end behind a tick, or killed, up to another one.
func (m *model) press(at spot, behind, upTo int) {
	p := m.of(at)[0]
	end := p.from + p.limit
	if asked, is := m.asked[at]; is {
		end = min(end, asked)
	}
	if end > behind && end <= upTo {
		m.seen["asked to end"]++
		m.signal(at, 15)
	}
	if end += m.config.Grace; end > behind && end <= upTo {
		m.seen["killed"]++
		m.signal(at, 9)
	}
}

func (m *model) tick(now int) {
	if m.down || now < m.now || now > 1<<40 {
		return
	}
	for _, at := range m.running() {
		m.press(at, m.now, now)
	}
	m.now = now
}

func (m *model) recover() []api.Msg {
	if !m.down {
		return nil
	}
	if r, e := journal.Read(m.tail); e > 0 {
		whole, _ := rec.Decode(r[0].Text)
		m.recs = append(m.recs, whole)
		m.seen["torn behind its end"]++
	}
	m.tail, m.down = "", false
	clear(m.asked)
	clear(m.used)
	clear(m.taken)
	var known []int
	for _, s := range m.state().Steps {
		if s.Phase == rec.StepHeld || s.Phase == rec.StepRuns {
			known = append(known, s.Pids...)
		}
	}
	before := len(m.procs)
	m.drop(func(p *proc) bool { return !slices.Contains(known, p.Pid) })
	m.seen["strays"] += before - len(m.procs)
	var out []api.Msg
	for _, at := range m.running() {
		m.start(at)
		said := m.end(at, -1)
		out = append(out, said...)
		if said == nil {
			m.press(at, -1, m.now)
		}
	}
	m.seen["ended at last"] += len(out)
	return out
}
