package ctl_test

import (
	"fmt"
	"math"
	"slices"
	"testing"

	"roundhouse/agent"
	"roundhouse/api"
	"roundhouse/cred"
	"roundhouse/ctl"
	"roundhouse/dag"
	"roundhouse/tally"
	"roundhouse/wire"
)

const (
	key   = "key"
	least = math.MinInt
	most  = math.MaxInt
)

// step is one that may be, behind those that its edges name.
func step(after ...api.Edge) api.Step {
	return api.Step{Ranks: 2, Per: 3, Dist: api.Cyclic, Limit: 7, After: after}
}

// on is a job on nodes.
func on(nodes []int, steps ...api.Step) api.Job { return api.Job{Nodes: nodes, Steps: steps} }

// desk is a controller that is tried; what nodes say to it is of a job and an epoch.
type desk struct {
	*testing.T
	*ctl.Ctl
	job, epoch int
}

// newDesk is one with jobs, of which the last one is it.
func newDesk(t *testing.T, jobs ...api.Job) *desk {
	t.Helper()
	d := &desk{t, ctl.New(key), len(jobs), 0}
	for i, j := range jobs {
		if id, e := d.Submit(j); id != i+1 || e != api.OK {
			t.Fatalf("P18.1: Submit = %d, %d", id, e)
		}
	}
	return d
}

// runDesk is one whose only job runs.
func runDesk(t *testing.T, j api.Job) *desk {
	t.Helper()
	d := newDesk(t, j)
	for _, node := range j.Nodes {
		d.says(api.MsgReady, node, 0, 0, true)
	}
	return d
}

// says fails unless what a node says counts, or does not.
func (d *desk) says(kind, node, step, arg int, want bool) {
	d.Helper()
	m := api.Msg{Kind: kind, From: node, To: -1, Job: d.job, Epoch: d.epoch, Step: step, Arg: arg}
	if got := d.Deliver(wire.Encode(m)); got != want {
		d.Errorf("P18.2: Deliver(%v) = %v", m, got)
	}
}

// all has each node say the same.
func (d *desk) all(kind, step, arg int, nodes ...int) {
	d.Helper()
	for _, node := range nodes {
		d.says(kind, node, step, arg, true)
	}
}

// to is a message of the controller, of its job.
func (d *desk) to(kind, node, step int) api.Msg {
	return api.Msg{Kind: kind, From: -1, To: node, Job: d.job, Epoch: d.epoch, Step: step}
}

// sends fails unless these are what is to be said, but for the launches' texts.
func (d *desk) sends(want ...api.Msg) {
	d.Helper()
	var got []api.Msg
	for _, s := range d.Outbox(3) {
		m, e := wire.Decode(s)
		if e != api.OK || (m.Text != "") != (m.Kind == api.MsgLaunch) {
			d.Errorf("P18.3: %q", s)
		}
		m.Text = ""
		got = append(got, m)
	}
	if !slices.Equal(got, want) {
		d.Errorf("P18.3: Outbox = %v, want %v", got, want)
	}
}

// known fails unless this is what is known of its job.
func (d *desk) known(phase, fate, code int, codes, votes []int) {
	d.Helper()
	want := fmt.Sprint(ctl.Job{Id: d.job, Epoch: d.epoch, Phase: phase, Fate: fate, Code: code, Codes: codes, Votes: votes}, true)
	if got := fmt.Sprint(d.Job(d.job)); got != want {
		d.Errorf("P18.4: Job = %s, want %s", got, want)
	}
}

// untouched fails if anything is known otherwise behind what is done.
func (d *desk) untouched(what string, do func()) {
	d.Helper()
	before := d.everything()
	do()
	if after := d.everything(); after != before {
		d.Errorf("%s: %s, behind it %s", what, before, after)
	}
}

func (d *desk) everything() string {
	s := fmt.Sprintf("%d %q", d.Jobs(), d.Outbox(5))
	for id := range d.Jobs() + 2 {
		s += fmt.Sprint(d.Job(id))
	}
	return s
}

var (
	two  = []int{1, 4}
	open = []int{dag.Open}
	none = []int{-1}
)

func TestConstants(t *testing.T) {
	got := []int{ctl.Starts, ctl.Runs, ctl.Finishes, ctl.Over, ctl.Fine, ctl.Failed, ctl.Requeued}
	if !slices.Equal(got, []int{0, 1, 2, 3, 0, 1, 2}) {
		t.Errorf("P18.4: %v", got)
	}
}

// submits fails unless that is what Submit answers; with an error nothing changes.
func submits(t *testing.T, j api.Job, want api.Errno) {
	t.Helper()
	d := newDesk(t)
	id, e := d.Submit(j)
	if e != want || e == api.OK && (id != 1 || d.Jobs() != 1) || e != api.OK && (id != 0 || d.Jobs() != 0) {
		t.Errorf("P18.1: Submit(%v) = %d, %d, want %d", j, id, e, want)
	}
}

func TestSubmitNodes(t *testing.T) {
	var all []int
	for node := range 16 {
		all = append(all, node)
	}
	for _, c := range []struct {
		nodes []int
		want  api.Errno
	}{
		{[]int{0}, api.OK}, {[]int{15}, api.OK}, {[]int{0, 15}, api.OK}, {all, api.OK},
		{nil, api.ErrArg}, {[]int{}, api.ErrArg}, {[]int{-1}, api.ErrArg}, {[]int{16}, api.ErrArg}, {[]int{0, 16}, api.ErrArg},
		{[]int{3, 3}, api.ErrArg}, {[]int{4, 3}, api.ErrArg}, {[]int{1, 2, 2}, api.ErrArg}, {append(all, 16), api.ErrArg}, {append(all, 15), api.ErrArg},
		{[]int{least}, api.ErrArg}, {[]int{most}, api.ErrArg},
	} {
		submits(t, on(c.nodes, step()), c.want)
		if c.want != api.OK {
			// A cycle is told only of nodes that may be.
			submits(t, on(c.nodes, step(api.Edge{Step: 1}), step(api.Edge{Step: 0})), api.ErrArg)
		}
	}
}

func TestSubmitSteps(t *testing.T) {
	wide := func(ranks, per int) api.Step { return api.Step{Ranks: ranks, Per: per, Limit: 1} }
	cycle := []api.Step{step(api.Edge{Step: 1}), step(api.Edge{Step: 0})}
	for _, c := range []struct {
		steps []api.Step
		want  api.Errno
	}{
		{[]api.Step{wide(1, 256)}, api.OK}, {[]api.Step{wide(32, 8)}, api.OK}, {[]api.Step{wide(16, 16)}, api.OK},
		{[]api.Step{wide(32, 9)}, api.ErrArg}, {[]api.Step{wide(2, 129)}, api.ErrArg}, {[]api.Step{step(), wide(32, 256)}, api.ErrArg}, {[]api.Step{wide(257, 1)}, api.ErrArg},
		{[]api.Step{wide(1, 257)}, api.ErrArg}, {[]api.Step{wide(0, 1)}, api.ErrArg}, {[]api.Step{wide(1<<62, 4)}, api.ErrArg},
		{nil, api.ErrArg}, {[]api.Step{{}}, api.ErrArg}, {make([]api.Step, 17), api.ErrArg}, {[]api.Step{step(api.Edge{Step: 0})}, api.ErrArg},
		{slices.Repeat([]api.Step{step()}, 16), api.OK}, {slices.Repeat([]api.Step{step()}, 17), api.ErrArg},
		{cycle, api.ErrCycle},
		// dag tells the cycle, and so it is told, though a step is too wide.
		{append(slices.Clone(cycle), wide(32, 9)), api.ErrCycle},
		{append(slices.Clone(cycle), wide(32, 257)), api.ErrArg},
	} {
		submits(t, on(two, c.steps...), c.want)
	}
}

func TestSubmitFull(t *testing.T) {
	d := newDesk(t)
	for i := range 16 {
		if id, e := d.Submit(on(two, step())); id != i+1 || e != api.OK || d.Jobs() != i+1 {
			t.Errorf("P18.1: Submit = %d, %d", id, e)
		}
		// One that may not be is no job, and has no id.
		if id, e := d.Submit(on(nil, step())); id != 0 || e != api.ErrArg {
			t.Errorf("P18.1: Submit = %d, %d", id, e)
		}
	}
	d.untouched("P18.1: there are 16 jobs", func() {
		for _, c := range []struct {
			j    api.Job
			want api.Errno
		}{{on(two, step()), api.ErrFull}, {on(nil, step()), api.ErrArg}, {on(two, step(api.Edge{Step: 1}), step(api.Edge{Step: 0})), api.ErrCycle}} {
			if id, e := d.Submit(c.j); id != 0 || e != c.want {
				t.Errorf("P18.1: Submit = %d, %d, want %d", id, e, c.want)
			}
		}
	})
	// Jobs that are over count, too.
	for d.job = 1; d.job <= 16; d.job++ {
		d.epoch = 0
		for d.epoch = 0; d.epoch < 4; d.epoch++ {
			d.says(api.MsgReady, 1, 0, 1, true)
			d.all(api.MsgGone, 0, 0, two...)
		}
	}
	if id, e := d.Submit(on(two, step())); id != 0 || e != api.ErrFull || d.Jobs() != 16 || len(d.Outbox(1)) != 0 {
		t.Errorf("P18.1: Submit = %d, %d", id, e)
	}
}

func TestNil(t *testing.T) {
	var c *ctl.Ctl
	if id, e := c.Submit(on(two, step())); id != 0 || e != api.ErrArg {
		t.Errorf("P18.4: Submit of nil = %d, %d", id, e)
	}
	if c.Cancel(1) != api.ErrArg || c.Deliver(wire.Encode(api.Msg{Kind: api.MsgReady, To: -1, Job: 1})) || c.Deliver("") || len(c.Outbox(1)) != 0 || c.Jobs() != 0 {
		t.Error("P18.4: of nil: ErrArg, 0, false, nothing")
	}
	for _, id := range []int{-1, 0, 1} {
		if j, is := c.Job(id); is || fmt.Sprint(j) != fmt.Sprint(ctl.Job{}) {
			t.Errorf("P18.4: Job of nil = %v, %v", j, is)
		}
	}
	d := &desk{t, &ctl.Ctl{}, 1, 0}
	d.Submit(on([]int{3}, step()))
	d.sends(d.to(api.MsgProlog, 3, 0))
}

func TestNoSuchJob(t *testing.T) {
	d := newDesk(t, on(two, step()), on(two, step()))
	for _, id := range []int{least, -1, 0, 3, 16, 1 << 32, 1<<32 + 1, most} {
		if e := d.Cancel(id); e != api.ErrArg {
			t.Errorf("P18.1: Cancel(%d) = %d", id, e)
		}
		if j, is := d.Job(id); is || fmt.Sprint(j) != fmt.Sprint(ctl.Job{}) {
			t.Errorf("P18.4: Job(%d) = %v, %v", id, j, is)
		}
	}
}

// TestExample is the document's: a job on nodes 0 and 1.
func TestExample(t *testing.T) {
	d := newDesk(t, on([]int{0, 1}, step()))
	d.sends(d.to(api.MsgProlog, 0, 0), d.to(api.MsgProlog, 1, 0))
}

// TestLaunchText has what a launch brings with it.
func TestLaunchText(t *testing.T) {
	wide := api.Step{Ranks: 32, Per: 8, Dist: api.Block, Limit: 1 << 30}
	nodes := []int{0, 2, 15}
	d := newDesk(t, on([]int{0}, step()), on(nodes, step(), wide))
	d.says(api.MsgReady, 0, 0, 1, true)
	d.all(api.MsgGone, 0, 0, nodes...)
	d.epoch = 1
	d.all(api.MsgReady, 0, 0, nodes...)
	for _, now := range []int{0, 1, 77, 1<<40 - 8} {
		out := d.Outbox(now)[1:]
		if len(out) != 6 {
			t.Fatalf("P18.3: %d messages", len(out))
		}
		for i, s := range out {
			s2 := []api.Step{step(), wide}[i/3]
			c := api.Cred{Job: 2, Epoch: 1, Step: i / 3, From: now, Until: now + 8, Nodes: nodes, Cores: s2.Ranks * s2.Per}
			o := agent.Order{Cred: cred.Sign(key, c), Ranks: s2.Ranks, Per: s2.Per, Dist: s2.Dist, Limit: s2.Limit}
			m := d.to(api.MsgLaunch, nodes[i%3], i/3)
			m.Text = agent.Pack(o)
			if s != wire.Encode(m) || o.Cred == "" {
				t.Errorf("P18.3: at %d: %q, want that of %v", now, s, m)
			}
		}
	}
	// At ticks of which no credential can be, there is none in the order.
	for _, now := range []int{least, -1, 1<<40 - 7, 1 << 40, most - 8} {
		m, _ := wire.Decode(d.Outbox(now)[1])
		if o, e := agent.Unpack(m.Text); o != (agent.Order{Ranks: 2, Per: 3, Dist: 1, Limit: 7}) || e != api.OK {
			t.Errorf("P18.3: at %d: %v, %d", now, o, e)
		}
	}
}

// TestAgain has the same asked again: the same is answered.
func TestAgain(t *testing.T) {
	d := runDesk(t, on(two, step(), step()))
	d.untouched("R6: what is asked", func() { d.Outbox(0); d.Outbox(99); d.Job(1); d.Jobs() })
	if !slices.Equal(d.Outbox(4), d.Outbox(4)) {
		t.Error("R6: Outbox again is another one")
	}
}

// TestApart asks whether what is handed in, and answered, has memory of its own.
func TestApart(t *testing.T) {
	nodes, steps := []int{1, 4}, []api.Step{step(), step(api.Edge{Step: 0, Kind: api.AfterNotOK})}
	d := newDesk(t, on(nodes, steps...))
	d.untouched("R5: what was handed in is written over", func() {
		nodes[0], nodes[1] = 9, 9
		steps[1].After[0] = api.Edge{Step: 7, Kind: 7}
		steps[0].Ranks = 5
	})
	d.all(api.MsgReady, 0, 0, two...)
	d.sends(d.to(api.MsgLaunch, 1, 0), d.to(api.MsgLaunch, 4, 0))
	d.untouched("R5: what was answered is written over", func() {
		j, _ := d.Job(1)
		j.Codes[0], j.Codes[1], j.Votes[0] = 9, 9, 9
	})
	j, _ := d.Job(1)
	d.all(api.MsgVote, 0, 1, two...)
	d.all(api.MsgEnded, 0, 5, two...)
	if !slices.Equal(j.Codes, []int{-1, -1}) || !slices.Equal(j.Votes, []int{tally.Open, -1}) {
		t.Errorf("R5: what was answered is another one: %v", j)
	}
	d.known(ctl.Runs, ctl.Fine, 0, []int{5, -1}, []int{tally.Ended, tally.Open})
	given := on([]int{1}, step(), step(api.Edge{Step: 0}))
	if d.Submit(given); fmt.Sprint(given) != fmt.Sprint(on([]int{1}, step(), step(api.Edge{Step: 0}))) {
		t.Errorf("R5: what was handed in is another one: %v", given)
	}
}
