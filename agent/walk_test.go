package agent_test

import (
	"fmt"
	"slices"
	"testing"

	"roundhouse/agent"
	"roundhouse/api"
	"roundhouse/cores"
	"roundhouse/cred"
	"roundhouse/journal"
	"roundhouse/mask"
	"roundhouse/rec"
	"roundhouse/wire"
)

type dice uint64

func (d *dice) below(n int) int {
	*d = *d*6364136223846793005 + 1442695040888963407
	return int(uint64(*d) >> 33 % uint64(n))
}

// seldom is what, once in so many times, and else other.
func (d *dice) seldom(n, what, other int) int {
	if d.below(n) == 0 {
		return what
	}
	return other
}

// config throws an agent's.
func (d *dice) config() agent.Config {
	return agent.Config{
		ID:     d.below(16),
		Layout: cores.Layout{Sockets: 1 + d.below(4), Per: 2 + d.below(6)},
		Key:    string(rune('a' + d.below(9))),
		Grace:  1 + d.below(4),
		Kill:   d.below(4),
	}
}

func (d *dice) choice() agent.Choice {
	return agent.Choice{Code: d.seldom(90, d.below(400)-50, 0), Fail: d.seldom(8, d.below(3), -1), Tear: d.seldom(25, d.below(45), -1)}
}

// msg throws one of few jobs, epochs and steps; one that is of tasks is mostly of some that are there.
func (d *dice) msg(m *model) api.Msg {
	c, now := m.config, m.now
	kinds := []int{api.MsgProlog, api.MsgLaunch, api.MsgLaunch, api.MsgLaunch, api.MsgRelease, api.MsgRelease, api.MsgCancel, d.seldom(3, api.MsgAbort, api.MsgRelease), d.seldom(4, d.below(10), api.MsgLaunch), d.seldom(7, api.MsgFinish, api.MsgRelease)}
	x := api.Msg{Kind: kinds[d.below(len(kinds))], From: d.seldom(50, 1, -1), To: d.seldom(50, d.below(16), c.ID), Job: d.below(4), Epoch: d.below(3), Step: d.below(9)}
	if l := m.procs; len(l) > 0 && x.Kind >= api.MsgRelease && d.below(4) > 0 {
		p := l[d.below(len(l))]
		x.Job, x.Epoch, x.Step = p.Job, p.Epoch, p.Step
	}
	o := agent.Order{Ranks: 1 + d.below(3), Per: 1 + d.below(2), Dist: d.below(2), Limit: 1 + d.below(9)}
	pass := api.Cred{Job: x.Job, Epoch: x.Epoch, Step: x.Step, From: d.seldom(20, now+1, 0), Until: now + d.below(20), Nodes: []int{d.seldom(20, 15-c.ID, c.ID)}, Cores: d.seldom(20, 1, 6)}
	o.Cred = cred.Sign([]string{c.Key, "wrong"}[d.seldom(20, 1, 0)], pass)
	if x.Kind == api.MsgLaunch {
		x.Text = agent.Pack(o)
	}
	return x
}

// same fails unless the agent and the model tell the same of all.
func same(t *testing.T, a *agent.Agent, m *model, what string) {
	t.Helper()
	var tasks []api.Task
	var signals, want []int
	for _, p := range m.procs {
		tasks, want = append(tasks, p.Task), append(want, p.sig)
		signals = append(signals, a.Signalled(p.Pid))
	}
	state, free := m.state(), m.free()
	if m.down {
		state, free = rec.State{}, mask.Mask{}
	}
	for _, c := range []struct {
		name      string
		got, want any
	}{
		{"P17.6: Down", a.Down(), m.down}, {"P17.5: Now", a.Now(), m.now}, {"P17.3: Log", a.Log(), logOf(m.recs...) + m.tail},
		{"P17.7: State", a.State(), state}, {"P17.3: Tasks", a.Tasks(), tasks}, {"P17.5: Signalled", signals, want}, {"P17.2: Free", a.Free(), free},
	} {
		if fmt.Sprint(c.got) != fmt.Sprint(c.want) {
			t.Fatalf("%s behind %s: %v, want %v", c.name, what, c.got, c.want)
		}
	}
	for job := range 5 {
		if a.Ticks(job) != m.ticks[job] {
			t.Fatalf("P17.4: Ticks(%d) behind %s: %d, want %d", job, what, a.Ticks(job), m.ticks[job])
		}
	}
}

// step does one thing that is thrown to both, and is what it was, and what they answer.
func (d *dice) step(a *agent.Agent, m *model) (what string, got []string, want []api.Msg) {
	switch n := d.below(100); {
	case n < 55:
		x, c := d.msg(m), d.choice()
		if d.below(8) == 0 {
			x = m.last // it comes twice
		}
		m.last = x
		return fmt.Sprint("Deliver ", x, c), a.Deliver(wire.Encode(x), c), m.deliver(x, c)
	case n < 75:
		pid, code, tear := 1+m.pids-d.below(20), d.seldom(3, d.below(260)-2, 0), d.seldom(7, d.below(30), -1)
		if l := m.procs; len(l) > 0 && d.below(3) > 0 {
			pid = l[d.below(len(l))].Pid
		}
		return fmt.Sprint("Exit ", pid, code, tear), a.Exit(pid, code, tear), m.exit(pid, code, tear)
	case n < 88:
		now := m.now + d.below(3) - d.seldom(9, 2, 0)
		a.Tick(now)
		m.tick(now)
		return fmt.Sprint("Tick ", now), nil, nil
	case n < 89:
		job, epoch := d.below(4), d.seldom(3, d.below(3), 0)
		if a.Revoke(job, epoch) == api.OK {
			m.taken[job] = max(m.taken[job], epoch)
		}
		return "Revoke", nil, nil
	case n < 91:
		a.Crash()
		m.down = true
		return "Crash", nil, nil
	}
	return "Recover", a.Recover(), m.recover()
}

func TestWalk(t *testing.T) {
	seen, kinds := map[string]int{}, map[int]int{}
	for seed := range 150 {
		d := dice(seed)
		c := d.config()
		a, m := agent.New(c), newModel(c)
		m.seen = seen
		for range 250 {
			what, got, want := d.step(a, m)
			if !slices.EqualFunc(got, want, func(s string, x api.Msg) bool { return s == wire.Encode(x) }) {
				t.Fatalf("P17.3: %s of %d: %q, want %v", what, seed, got, want)
			}
			same(t, a, m, what)
			sound(t, a)
		}
		for _, r := range m.recs {
			kinds[r.Kind]++
		}
	}
	for _, what := range []string{"revoked", "replayed", "no cores", "a rank failed", "asked to end", "killed", "strays", "torn behind its end", "ended at last"} {
		if seen[what] < 10 {
			t.Errorf("the walks come to this %d times: %s", seen[what], what)
		}
	}
	for kind := range 8 {
		if kinds[kind] < 20 {
			t.Errorf("the walks come to %d records of kind %d", kinds[kind], kind)
		}
	}
}

// sound fails unless what follows from the document holds: the state is what the log says, and no task runs whose step was not released.
func sound(t *testing.T, a *agent.Agent) {
	t.Helper()
	var l []api.Rec
	entries, _ := journal.Read(a.Log())
	for _, entry := range entries {
		r, e := rec.Decode(entry.Text)
		if e != api.OK || entry.Kind != 0 {
			t.Fatalf("P17.7: an entry of the log: %v", entry)
		}
		l = append(l, r)
	}
	s, n := rec.Fold(l)
	if n != len(l) || !a.Down() && fmt.Sprint(s) != fmt.Sprint(a.State()) {
		t.Fatalf("P17.7: the state is %v, but the log says %v", a.State(), s)
	}
	for _, x := range a.Tasks() {
		step, _ := rec.StepOf(s, x.Job, x.Epoch, x.Step)
		if x.State == api.Running && (step.Phase != rec.StepRuns || !slices.Contains(step.Pids, x.Pid)) {
			t.Fatalf("P17.7: %v runs, of a step that is %v", x, step)
		}
	}
}

// TestCrashChangesNothing crashes agents at any moment: behind that all is as it was, but for what is not to last.
func TestCrashChangesNothing(t *testing.T) {
	d := dice(4)
	for range 60 {
		c := d.config()
		a, m := agent.New(c), newModel(c)
		for range 120 {
			d.step(a, m)
			if a.Down() {
				a.Recover()
				m.recover()
			}
			before := fmt.Sprint(a.State(), a.Tasks(), a.Free(), a.Log(), a.Now())
			a.Crash()
			m.down = true
			if out := a.Recover(); len(out) != 0 {
				t.Fatalf("P17.7: it answers %q", out)
			}
			m.recover()
			if after := fmt.Sprint(a.State(), a.Tasks(), a.Free(), a.Log(), a.Now()); after != before {
				t.Fatalf("P17.7: %s, behind a crash %s", before, after)
			}
		}
	}
}
