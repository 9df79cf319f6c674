package agent_test

import (
	"fmt"
	"math"
	"slices"
	"strings"
	"testing"

	"roundhouse/agent"
	"roundhouse/api"
	"roundhouse/cores"
	"roundhouse/cred"
	"roundhouse/journal"
	"roundhouse/mask"
	"roundhouse/rec"
	"roundhouse/wire"
)

const (
	id     = 2
	key    = "key"
	grace  = 2
	least  = math.MinInt
	most   = math.MaxInt
	maxJob = 1 << 20
)

// fine is a choice by which nothing fails, and nothing is torn.
var fine = agent.Choice{Fail: -1, Tear: -1}

// torn is a choice by which the record is torn at k.
func torn(k int) agent.Choice { return agent.Choice{Fail: -1, Tear: k} }

func config() agent.Config {
	return agent.Config{ID: id, Layout: cores.Layout{Sockets: 2, Per: 4}, Key: key, Grace: grace, Kill: 3}
}

// lab is an agent that is tried.
type lab struct {
	*testing.T
	*agent.Agent
}

func newLab(t *testing.T) *lab { return &lab{t, agent.New(config())} }

// upLab is one where job 5 is up, in epoch 1.
func upLab(t *testing.T) *lab {
	t.Helper()
	l := newLab(t)
	l.hears(ask(api.MsgProlog, 0), fine, reply(api.MsgReady, 0, 0))
	return l
}

// ask is the controller's message of a step of job 5, in epoch 1.
func ask(kind, step int) api.Msg {
	return api.Msg{Kind: kind, From: -1, To: id, Job: 5, Epoch: 1, Step: step}
}

// reply is the node's.
func reply(kind, step, arg int) api.Msg {
	return api.Msg{Kind: kind, From: id, To: -1, Job: 5, Epoch: 1, Step: step, Arg: arg}
}

func vote(step, arg int) api.Msg { return reply(api.MsgVote, step, arg) }

// order is one that is allowed for a step of job 5, in epoch 1, until a tick.
func order(step, until int) agent.Order {
	c := api.Cred{Job: 5, Epoch: 1, Step: step, Until: until, Nodes: []int{0, id}, Cores: 8}
	return agent.Order{Cred: cred.Sign(key, c), Ranks: 2, Per: 1, Limit: 10}
}

// launch is a MsgLaunch of an order.
func launch(step int, o agent.Order) api.Msg {
	m := ask(api.MsgLaunch, step)
	m.Text = agent.Pack(o)
	return m
}

// hears fails unless the agent answers just these messages.
func (l *lab) hears(m api.Msg, c agent.Choice, want ...api.Msg) {
	l.Helper()
	l.told(l.Deliver(wire.Encode(m), c), want...)
}

// exits fails unless the agent answers just these messages to a task's exit.
func (l *lab) exits(pid, code, tear int, want ...api.Msg) {
	l.Helper()
	l.told(l.Exit(pid, code, tear), want...)
}

// recovers fails unless the agent is down, and answers just these messages when it recovers.
func (l *lab) recovers(want ...api.Msg) {
	l.Helper()
	if !l.Down() {
		l.Error("P17.6: it is up")
	}
	l.told(l.Recover(), want...)
	if l.Down() {
		l.Error("P17.6: it is down")
	}
}

func (l *lab) told(got []string, want ...api.Msg) {
	l.Helper()
	if !slices.EqualFunc(got, want, func(s string, m api.Msg) bool { return s == wire.Encode(m) }) {
		l.Errorf("P17.3: it answers %q, want %v", got, want)
	}
}

// has fails unless its tasks are these: Pid, step, rank, cores, state and code of each.
func (l *lab) has(want ...string) {
	l.Helper()
	var got []string
	for _, x := range l.Tasks() {
		got = append(got, fmt.Sprintf("%d: %d.%d on %s, %d %d", x.Pid, x.Step, x.Rank, text(x.Cores), x.State, x.Code))
		if x.Job != 5 || x.Epoch != 1 {
			l.Errorf("P17.3: a task of job %d, epoch %d", x.Job, x.Epoch)
		}
	}
	if !slices.Equal(got, want) {
		l.Errorf("P17.3: tasks %q, want %q", got, want)
	}
}

func text(l []int) string {
	m, _ := mask.Of(l)
	return m.Text()
}

// isFree fails unless just these cores are free.
func (l *lab) isFree(want string) {
	l.Helper()
	if got := l.Free().Text(); got != want {
		l.Errorf("P17.2: %q is free, want %q", got, want)
	}
}

// ticks fails unless the job has used so much.
func (l *lab) ticks(want int) {
	l.Helper()
	if got := l.Ticks(5); got != want {
		l.Errorf("P17.4: core-ticks %d, want %d", got, want)
	}
}

// signals fails unless the tasks are so signalled.
func (l *lab) signals(want ...int) {
	l.Helper()
	var got []int
	for _, x := range l.Tasks() {
		got = append(got, l.Signalled(x.Pid))
	}
	if !slices.Equal(got, want) {
		l.Errorf("P17.5: signals %v, want %v", got, want)
	}
}

// logOf is a log of records.
func logOf(all ...api.Rec) string {
	log := ""
	for _, r := range all {
		log += journal.Record(0, rec.Encode(r))
	}
	return log
}

// of is a record of a step of job 5, epoch 1.
func of(kind, step, arg int, pids ...int) api.Rec {
	return api.Rec{Kind: kind, Job: 5, Epoch: 1, Step: step, Arg: arg, List: pids}
}

// wrote fails unless its log has just these records, and its state is what they say.
func (l *lab) wrote(want ...api.Rec) {
	l.Helper()
	if l.Log() != logOf(want...) {
		l.Errorf("P17.3: the log is %q, want that of %v", l.Log(), want)
	}
	s, _ := rec.Fold(want)
	if l.Down() {
		s = rec.State{}
	}
	if fmt.Sprint(l.State()) != fmt.Sprint(s) {
		l.Errorf("P17.7: the state is %v, want %v", l.State(), s)
	}
}

// untouched fails if anything of it is otherwise behind what is done.
func (l *lab) untouched(what string, do func()) {
	l.Helper()
	before := l.all()
	do()
	if after := l.all(); after != before {
		l.Errorf("%s: %s, behind it %s", what, before, after)
	}
}

// all is all that it tells.
func (l *lab) all() string {
	var signals []int
	for _, x := range l.Tasks() {
		signals = append(signals, l.Signalled(x.Pid))
	}
	return fmt.Sprintf("%v %d %v %v %v %v %q %d", l.Down(), l.Now(), l.State(), l.Tasks(), signals, l.Free(), l.Log(), l.Ticks(5))
}

func TestNew(t *testing.T) {
	for _, id := range []int{0, 1, 15} {
		c := config()
		c.ID = id
		if agent.New(c) == nil {
			t.Errorf("P17.2: ID %d", id)
		}
	}
	for _, change := range []func(c *agent.Config){
		func(c *agent.Config) { c.Grace = 1 },
		func(c *agent.Config) { c.Grace = 1 << 30 },
		func(c *agent.Config) { c.Kill = 0 },
		func(c *agent.Config) { c.Kill = 1 << 30 },
		func(c *agent.Config) { c.Key = "" },
		func(c *agent.Config) { c.Layout = cores.Layout{Sockets: 8, Per: 32} },
		func(c *agent.Config) { c.Layout = cores.Layout{Sockets: 1, Per: 1} },
	} {
		c := config()
		change(&c)
		if agent.New(c) == nil {
			t.Errorf("P17.2: %v", c)
		}
	}
}

func TestNewWrong(t *testing.T) {
	for _, change := range []func(c *agent.Config, n int){
		func(c *agent.Config, n int) { c.ID = n },
		func(c *agent.Config, n int) { c.Grace = n },
		func(c *agent.Config, n int) { c.Kill = n },
		func(c *agent.Config, n int) { c.Layout.Sockets = n },
		func(c *agent.Config, n int) { c.Layout.Per = n },
	} {
		for _, n := range []int{least, -1, 1<<30 + 1, most} {
			c := config()
			change(&c, n)
			if agent.New(c) != nil {
				t.Errorf("P17.2: %v", c)
			}
		}
	}
	for _, c := range []agent.Config{
		{},
		{ID: 16, Layout: config().Layout, Grace: 1},
		{ID: 1, Layout: config().Layout, Grace: 0},
		{ID: 1, Layout: cores.Layout{Sockets: 8, Per: 33}, Grace: 1},
		{ID: 1, Layout: cores.Layout{Sockets: 9, Per: 1}, Grace: 1},
		{ID: 1, Layout: cores.Layout{Sockets: 0, Per: 4}, Grace: 1},
	} {
		if agent.New(c) != nil {
			t.Errorf("P17.2: %v", c)
		}
	}
}

func TestNewIsEmpty(t *testing.T) {
	l := newLab(t)
	if l.Down() || l.Now() != 0 || l.Log() != "" || len(l.Tasks()) != 0 || l.Ticks(5) != 0 || l.Signalled(1) != 0 {
		t.Errorf("P17.2: %s", l.all())
	}
	l.wrote()
	l.isFree("0-7")
	// Two agents have nothing in common.
	o := newLab(t)
	l.hears(ask(api.MsgProlog, 0), fine, reply(api.MsgReady, 0, 0))
	l.hears(launch(0, order(0, 9)), fine, vote(0, 1))
	o.wrote()
	o.isFree("0-7")
	o.has()
}

func TestNil(t *testing.T) {
	var a *agent.Agent
	a.Crash()
	a.Tick(4)
	if !a.Down() || a.Now() != 0 || a.Log() != "" || len(a.Tasks()) != 0 || a.Signalled(1) != 0 || a.Free() != (mask.Mask{}) || a.Ticks(0) != 0 {
		t.Error("P17.6: of nil: nothing, but that it is down")
	}
	if s := a.State(); len(s.Jobs) != 0 || len(s.Steps) != 0 || s.Drained {
		t.Errorf("P17.6: of nil: %v", s)
	}
	if len(a.Deliver(wire.Encode(ask(api.MsgProlog, 0)), fine)) != 0 || len(a.Exit(1, 0, -1)) != 0 || len(a.Recover()) != 0 {
		t.Error("P17.6: nil answers")
	}
	if a.Revoke(1, 1) != api.ErrArg {
		t.Error("P17.5: nil is down")
	}
}

// TestZero has an agent that New did not make: whatever it does, it ends.
func TestZero(t *testing.T) {
	l := &lab{t, &agent.Agent{}}
	zero := wire.Encode(api.Msg{Kind: api.MsgProlog, From: -1})
	signed := cred.Sign("", api.Cred{Until: 9, Nodes: []int{0}, Cores: 1})
	one := wire.Encode(api.Msg{Kind: api.MsgLaunch, From: -1, Text: agent.Pack(agent.Order{Cred: signed, Ranks: 1, Per: 1, Limit: 1})})
	for range 2 {
		l.Deliver(zero, fine)
		l.Deliver(one, fine)
		l.Exit(1, 0, -1)
		l.Tick(1)
		l.Revoke(1, 1)
		l.all()
		l.Recover()
	}
	l.Crash()
	l.all()
}

// TestStateApart asks whether what is answered has memory of its own.
func TestStateApart(t *testing.T) {
	l := upLab(t)
	l.hears(launch(0, order(0, 9)), fine, vote(0, 1))
	l.untouched("R5: what was answered is written over", func() {
		s := l.State()
		s.Jobs[0].Phase = rec.JobGone
		s.Steps[0].Pids[0] = 99
		s.Steps[0].Phase = rec.StepEnded
		tasks := l.Tasks()
		tasks[0].Cores[0] = 99
		tasks[0].State = api.Exited
	})
	s := l.State()
	was := fmt.Sprint(s)
	l.hears(ask(api.MsgRelease, 0), fine)
	l.hears(launch(1, order(1, 9)), fine, vote(1, 1))
	if fmt.Sprint(s) != was {
		t.Errorf("R5: what was answered is another one: %v", s)
	}
}

// TestWholeJob is a job from its prolog to its epilog.
func TestWholeJob(t *testing.T) {
	l := upLab(t)
	o := order(0, 9)
	o.Dist, o.Per = api.Cyclic, 2
	l.hears(launch(0, o), fine, vote(0, 1))
	l.has("1: 0.0 on 0,4, 0 0", "2: 0.1 on 1,5, 0 0")
	l.isFree("2-3,6-7")
	l.Tick(3)
	l.hears(ask(api.MsgRelease, 0), fine)
	l.has("1: 0.0 on 0,4, 1 0", "2: 0.1 on 1,5, 1 0")
	l.hears(ask(api.MsgFinish, 0), fine)
	l.Tick(5)
	l.exits(2, 0, -1)
	l.ticks(4)
	l.isFree("2-3,6-7")
	l.Tick(6)
	l.exits(1, 7, -1, reply(api.MsgEnded, 0, 7))
	l.ticks(10)
	l.isFree("0-7")
	l.has()
	l.hears(ask(api.MsgRelease, 0), fine, reply(api.MsgEnded, 0, 7))
	l.hears(ask(api.MsgFinish, 0), fine, reply(api.MsgGone, 0, 0))
	l.wrote(of(rec.Prolog, 0, 0), of(rec.Held, 0, 0, 1, 2), of(rec.Released, 0, 0), of(rec.Ended, 0, 7), of(rec.Epilog, 0, 0))
	if l.Ticks(4) != 0 || l.Ticks(-1) != 0 {
		t.Error("P17.2: another job's ticks")
	}
}

func TestLongKey(t *testing.T) {
	c := config()
	c.Key = strings.Repeat("k", 500)
	l := &lab{t, agent.New(c)}
	l.hears(ask(api.MsgProlog, 0), fine, reply(api.MsgReady, 0, 0))
	l.hears(launch(0, order(0, 9)), fine, vote(0, 0))
	o := order(1, 9)
	o.Cred = cred.Sign(c.Key, api.Cred{Job: 5, Epoch: 1, Step: 1, Until: 9, Nodes: []int{2}, Cores: 2})
	l.hears(launch(1, o), fine, vote(1, 1))
}
