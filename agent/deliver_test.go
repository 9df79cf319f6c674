package agent_test

import (
	"testing"

	"roundhouse/agent"
	"roundhouse/api"
	"roundhouse/cred"
	"roundhouse/journal"
	"roundhouse/rec"
	"roundhouse/wire"
)

// TestNotForIt has what an agent does nothing about, and tells nothing to.
func TestNotForIt(t *testing.T) {
	good := launch(0, order(0, 9))
	other, node, back := good, good, good
	other.To, node.From, back.To, back.From = 3, 0, -1, id
	wrong := []string{"", "junk", wire.Encode(good) + "x", wire.Encode(good)[:9], wire.Encode(other), wire.Encode(node), wire.Encode(back)}
	for _, kind := range []int{api.MsgReady, api.MsgVote, api.MsgEnded, api.MsgGone} {
		m := good
		m.Kind = kind
		wrong = append(wrong, wire.Encode(m))
	}
	for _, kind := range []int{api.MsgProlog, api.MsgFinish, api.MsgAbort, api.MsgRelease, api.MsgCancel} {
		m := ask(kind, 0)
		m.Job, m.To = 9, 3
		wrong = append(wrong, wire.Encode(m))
		m.To, m.From = id, 3
		wrong = append(wrong, wire.Encode(m))
	}
	for _, c := range []agent.Choice{fine, {Fail: 1, Tear: -1}, torn(0), torn(5), {}} {
		l := upLab(t)
		for _, s := range wrong {
			l.untouched("P17.3: what is not for it", func() { l.told(l.Deliver(s, c)) })
		}
		// No credential was used up by that, and no Pid told.
		l.hears(good, fine, vote(0, 1))
		l.has("1: 0.0 on 0, 0 0", "2: 0.1 on 1, 0 0")
	}
}

func TestDeliverDown(t *testing.T) {
	l := upLab(t)
	l.hears(launch(0, order(0, 9)), fine, vote(0, 1))
	l.Crash()
	for _, m := range []api.Msg{ask(api.MsgProlog, 0), ask(api.MsgRelease, 0), ask(api.MsgAbort, 0), launch(1, order(1, 9)), ask(api.MsgFinish, 0)} {
		l.untouched("P17.3: it is down", func() { l.hears(m, fine) })
	}
	l.recovers()
	l.hears(launch(1, order(1, 9)), fine, vote(1, 1))
	l.has("1: 0.0 on 0, 0 0", "2: 0.1 on 1, 0 0", "3: 1.0 on 2, 0 0", "4: 1.1 on 3, 0 0")
}

// TestCodes has the codes by which a prolog, and an epilog, may end.
func TestCodes(t *testing.T) {
	for _, c := range []struct{ code, want int }{{0, 0}, {1, 1}, {2, 2}, {255, 255}, {256, 1}, {-1, 1}, {least, 1}, {most, 1}} {
		failed := min(c.want, 1)
		l := newLab(t)
		l.hears(ask(api.MsgProlog, 0), agent.Choice{Code: c.code, Fail: -1, Tear: -1}, reply(api.MsgReady, 0, failed))
		l.wrote(of(rec.Prolog, 0, c.want))
		// A code is no error, where none is asked for.
		l.untouched("P17.3: a prolog again", func() {
			l.hears(ask(api.MsgProlog, 0), agent.Choice{Code: -5, Fail: -1, Tear: -1}, reply(api.MsgReady, 0, failed))
		})
		l = upLab(t)
		l.hears(ask(api.MsgFinish, 0), agent.Choice{Code: c.code, Fail: -1, Tear: -1}, reply(api.MsgGone, 0, failed))
		l.wrote(of(rec.Prolog, 0, 0), of(rec.Epilog, 0, c.want))
	}
}

// refuses fails unless, at tick 3, a launch is refused, and its credential is used up by that, or not.
func refuses(t *testing.T, what string, m api.Msg, c agent.Choice, used bool) {
	t.Helper()
	l := upLab(t)
	l.Tick(3)
	l.untouched("P17.3: "+what, func() { l.hears(m, c, vote(0, 0)) })
	again := 1
	if used {
		again = 0
	}
	l.hears(launch(0, order(0, 9)), fine, vote(0, again))
}

// TestCredentials has credentials that don't allow the launch: they are not used up.
func TestCredentials(t *testing.T) {
	for what, change := range map[string]func(c *api.Cred){
		"another job":      func(c *api.Cred) { c.Job = 4 },
		"another epoch":    func(c *api.Cred) { c.Epoch = 0 },
		"another step":     func(c *api.Cred) { c.Step = 1 },
		"another node":     func(c *api.Cred) { c.Nodes = []int{0, 1, 3} },
		"too few cores":    func(c *api.Cred) { c.Cores = 1 },
		"ahead of it":      func(c *api.Cred) { c.From = 4 },
		"behind its end":   func(c *api.Cred) { c.Until = 3 },
		"none that may be": func(c *api.Cred) { c.Nodes = nil },
	} {
		c := api.Cred{Job: 5, Epoch: 1, From: 3, Until: 4, Nodes: []int{id}, Cores: 2}
		o := order(0, 9)
		o.Cred = cred.Sign(key, c)
		l := upLab(t)
		l.Tick(3)
		l.hears(launch(0, o), fine, vote(0, 1))
		change(&c)
		o.Cred = cred.Sign(key, c)
		refuses(t, what, launch(0, o), fine, false)
	}
}

// TestRefused has launches that are refused for other reasons.
func TestRefused(t *testing.T) {
	good := order(0, 9)
	short, other, none, wide, many := good, good, good, good, good
	short.Cred = good.Cred[1:]
	other.Cred = cred.Sign("Key", api.Cred{Job: 5, Epoch: 1, Until: 9, Nodes: []int{id}, Cores: 2})
	none.Cred = ""
	wide.Per = 5 // more than the credential has
	many.Cred = cred.Sign(key, api.Cred{Job: 5, Epoch: 1, Until: 9, Nodes: []int{id}, Cores: 9})
	many.Ranks = 9 // more than there are
	bare, junk := ask(api.MsgLaunch, 0), ask(api.MsgLaunch, 0)
	junk.Text = agent.Pack(good) + "x"
	for _, c := range []struct {
		what   string
		m      api.Msg
		choice agent.Choice
		used   bool
	}{
		{"no text", bare, fine, false},
		{"no order", junk, fine, false},
		{"a credential cut", launch(0, short), fine, false},
		{"another key", launch(0, other), fine, false},
		{"no credential", launch(0, none), fine, false},
		{"too wide for it", launch(0, wide), fine, false},
		{"too wide for the node", launch(0, many), fine, true},
		{"the first rank fails", launch(0, good), agent.Choice{Fail: 0, Tear: -1}, true},
		{"the last rank fails", launch(0, good), agent.Choice{Fail: 1, Tear: -1}, true},
	} {
		refuses(t, c.what, c.m, c.choice, c.used)
	}
}

// TestFits has launches that fit just so.
func TestFits(t *testing.T) {
	fit := api.Cred{Job: 5, Epoch: 1, From: 3, Until: 4, Nodes: []int{id}, Cores: 8}
	for _, o := range []agent.Order{{Ranks: 8, Per: 1}, {Ranks: 1, Per: 8}, {Ranks: 4, Per: 2, Dist: api.Cyclic}} {
		l := upLab(t)
		l.Tick(3)
		o.Cred, o.Limit = cred.Sign(key, fit), 1<<30
		l.hears(launch(0, o), agent.Choice{Fail: o.Ranks, Tear: -1}, vote(0, 1))
		l.isFree("")
		if len(l.Tasks()) != o.Ranks {
			l.Errorf("P17.3: %d tasks", len(l.Tasks()))
		}
		// None is free any more; those of who held them are, when it is aborted.
		l.hears(launch(1, order(1, 9)), fine, vote(1, 0))
		l.hears(ask(api.MsgAbort, 0), fine)
		l.hears(launch(2, order(2, 9)), fine, vote(2, 1))
	}
}

// TestFail has the rank fail at which a script wants it: those that were spawned are gone, and their Pids are not told again.
func TestFail(t *testing.T) {
	for fail := range 4 {
		l := upLab(t)
		o := order(0, 9)
		o.Ranks = 3
		if fail == 3 {
			l.hears(launch(0, o), agent.Choice{Fail: fail, Tear: -1}, vote(0, 1))
			l.has("1: 0.0 on 0, 0 0", "2: 0.1 on 1, 0 0", "3: 0.2 on 2, 0 0")
			continue
		}
		l.hears(launch(0, o), agent.Choice{Fail: fail, Tear: 0}, vote(0, 0))
		if l.Down() {
			l.Error("P17.3: nothing was written, and so nothing torn")
		}
		l.has()
		l.isFree("0-7")
		l.ticks(0)
		l.wrote(of(rec.Prolog, 0, 0))
		o = order(1, 9)
		o.Ranks = 1
		l.hears(launch(1, o), fine, vote(1, 1))
		if x := l.Tasks(); x[0].Pid != fail+1 {
			l.Errorf("P17.3: fail %d: the next Pid is %d", fail, x[0].Pid)
		}
	}
}

// TestBounds has steps and jobs at the edges of what can be launched.
func TestBounds(t *testing.T) {
	for _, c := range []struct {
		job, step, want int
	}{{0, 0, 1}, {1, 15, 1}, {1, 16, 0}, {1, 1 << 40, 0}, {maxJob, 15, 1}, {maxJob + 1, 0, 0}, {1 << 40, 1, 0}} {
		l := newLab(t)
		m := api.Msg{From: -1, To: id, Job: c.job, Epoch: 8}
		l.Deliver(wire.Encode(m), fine)
		o := agent.Order{Ranks: 1, Per: 1, Limit: 1}
		o.Cred = cred.Sign(key, api.Cred{Job: c.job, Epoch: 8, Step: c.step, Until: 1, Nodes: []int{id}, Cores: 1})
		m.Kind, m.Step, m.Text = api.MsgLaunch, c.step, agent.Pack(o)
		l.hears(m, fine, api.Msg{Kind: api.MsgVote, From: id, To: -1, Job: c.job, Epoch: 8, Step: c.step, Arg: c.want})
		if len(l.Tasks()) != c.want {
			l.Errorf("P17.3: job %d, step %d: %d tasks", c.job, c.step, len(l.Tasks()))
		}
	}
}

// TestNumbers has steps whose numbers lie side by side: each has cores of its own.
func TestNumbers(t *testing.T) {
	l := newLab(t)
	free := 8
	for _, at := range [][3]int{{1, 0, 0}, {1, 0, 15}, {1, 1, 0}, {1, 8, 15}, {2, 0, 0}, {0, 8, 15}} {
		m := api.Msg{From: -1, To: id, Job: at[0], Epoch: at[1]}
		l.Deliver(wire.Encode(m), fine)
		o := agent.Order{Ranks: 1, Per: 1, Limit: 1}
		o.Cred = cred.Sign(key, api.Cred{Job: at[0], Epoch: at[1], Step: at[2], Until: 1, Nodes: []int{id}, Cores: 1})
		m.Kind, m.Step, m.Text = api.MsgLaunch, at[2], agent.Pack(o)
		l.hears(m, fine, api.Msg{Kind: api.MsgVote, From: id, To: -1, Job: at[0], Epoch: at[1], Step: at[2], Arg: 1})
		free--
		if l.Free().Count() != free {
			l.Errorf("P17.3: %v: %d cores are free", at, l.Free().Count())
		}
	}
	l.Crash()
	l.recovers()
	if l.Free().Count() != free {
		l.Errorf("P17.6: %d cores are free", l.Free().Count())
	}
}

// TestAsksOnly has launches that don't hang on their credentials: those are not used.
func TestAsksOnly(t *testing.T) {
	l := newLab(t)
	l.hears(launch(0, order(0, 9)), fine, vote(0, 0))
	l.hears(ask(api.MsgProlog, 0), fine, reply(api.MsgReady, 0, 0))
	l.hears(launch(0, order(0, 9)), fine, vote(0, 1))
	// A step that is there is voted for by what it is, whatever the order.
	l.untouched("P17.3: a launch again", func() { l.hears(ask(api.MsgLaunch, 0), agent.Choice{}, vote(0, 1)) })
	l.hears(ask(api.MsgAbort, 1), fine)
	l.untouched("P17.3: a launch behind an abort", func() { l.hears(launch(1, order(1, 9)), fine, vote(1, 0)) })
	l.hears(ask(api.MsgAbort, 0), fine)
	l.untouched("P17.3: a launch behind an abort", func() { l.hears(launch(0, order(0, 9)), fine, vote(0, 0)) })
	l.wrote(of(rec.Prolog, 0, 0), of(rec.Held, 0, 0, 1, 2), of(rec.Refused, 1, 0), of(rec.Aborted, 0, 0))
}

// TestUsedOnce has a credential that is used again, as long as it lasts, and behind that.
func TestUsedOnce(t *testing.T) {
	l := upLab(t)
	l.hears(launch(0, order(0, 9)), agent.Choice{Fail: 0, Tear: -1}, vote(0, 0))
	l.hears(launch(0, order(0, 9)), fine, vote(0, 0))
	l.hears(launch(0, order(0, 99)), fine, vote(0, 0))
	l.Tick(8)
	l.hears(launch(0, order(0, 99)), fine, vote(0, 0))
	l.Tick(9)
	l.hears(launch(0, order(0, 9)), fine, vote(0, 0))
	l.hears(launch(0, order(0, 99)), fine, vote(0, 1))
}

// TestCacheIsFull has more credentials than an agent remembers.
func TestCacheIsFull(t *testing.T) {
	l := newLab(t)
	one := func(n, until int) api.Msg {
		m := api.Msg{Kind: api.MsgLaunch, From: -1, To: id, Job: n / 16, Step: n % 16}
		o := agent.Order{Ranks: 9, Per: 1, Limit: 1}
		o.Cred = cred.Sign(key, api.Cred{Job: m.Job, Step: m.Step, Until: until, Nodes: []int{id}, Cores: 9})
		m.Text = agent.Pack(o)
		return m
	}
	for job := range 5 {
		l.Deliver(wire.Encode(api.Msg{From: -1, To: id, Job: job}), fine)
	}
	for n := range 64 {
		l.Deliver(wire.Encode(one(n, 5)), fine) // there are no 9 cores: used up in vain
	}
	m := one(64, 9)
	o, _ := agent.Unpack(m.Text)
	o.Ranks = 1
	m.Text = agent.Pack(o)
	says := api.Msg{Kind: api.MsgVote, From: id, To: -1, Job: 4}
	l.hears(m, fine, says)
	l.Tick(5)
	says.Arg = 1
	l.hears(m, fine, says)
}

func TestRevoke(t *testing.T) {
	l := upLab(t)
	for _, c := range []struct {
		job, epoch int
		want       api.Errno
	}{{-1, 0, api.ErrArg}, {1<<40 + 1, 0, api.ErrArg}, {5, -1, api.ErrArg}, {5, 9, api.ErrArg}, {4, 8, api.OK}, {5, 0, api.OK}} {
		if e := l.Revoke(c.job, c.epoch); e != c.want {
			t.Errorf("P17.5: Revoke(%d, %d) = %d", c.job, c.epoch, e)
		}
	}
	l.hears(launch(0, order(0, 9)), fine, vote(0, 1))
	if e := l.Revoke(5, 1); e != api.OK {
		t.Errorf("P17.5: Revoke = %d", e)
	}
	l.hears(launch(0, order(0, 9)), fine, vote(0, 1))
	l.hears(launch(1, order(1, 9)), fine, vote(1, 0))
	// It is no more than remembered: a crash takes it away.
	l.Crash()
	if e := l.Revoke(5, 1); e != api.ErrArg {
		t.Errorf("P17.5: Revoke of one that is down = %d", e)
	}
	l.recovers()
	l.hears(launch(1, order(1, 9)), fine, vote(1, 1))
}

func TestRevokeFull(t *testing.T) {
	l := newLab(t)
	for job := range 64 {
		if e := l.Revoke(job, 8); e != api.OK {
			t.Errorf("P17.5: Revoke(%d) = %d", job, e)
		}
	}
	if e := l.Revoke(64, 8); e != api.ErrFull {
		t.Errorf("P17.5: Revoke = %d", e)
	}
}

// TestAbort has a held step aborted: its tasks are dead, and nothing was used.
func TestAbort(t *testing.T) {
	l := upLab(t)
	l.hears(launch(0, order(0, 9)), fine, vote(0, 1))
	l.hears(launch(1, order(1, 9)), fine, vote(1, 1))
	l.Tick(4)
	l.hears(ask(api.MsgAbort, 0), fine)
	l.has("3: 1.0 on 2, 0 0", "4: 1.1 on 3, 0 0")
	l.isFree("0-1,4-7")
	l.ticks(0)
	l.untouched("P17.3: again", func() { l.hears(ask(api.MsgAbort, 0), fine) })
	l.untouched("P17.3: a release behind it", func() { l.hears(ask(api.MsgRelease, 0), fine) })
	l.hears(ask(api.MsgRelease, 1), fine)
	l.untouched("P17.3: an abort of what runs", func() { l.hears(ask(api.MsgAbort, 1), torn(0)) })
	l.wrote(of(rec.Prolog, 0, 0), of(rec.Held, 0, 0, 1, 2), of(rec.Held, 1, 0, 3, 4), of(rec.Aborted, 0, 0), of(rec.Released, 1, 0))
}

// TestRelease has a step released: its own tasks run, and no other's.
func TestRelease(t *testing.T) {
	l := upLab(t)
	l.hears(launch(0, order(0, 9)), fine, vote(0, 1))
	l.hears(launch(1, order(1, 9)), fine, vote(1, 1))
	l.hears(ask(api.MsgRelease, 1), fine)
	l.has("1: 0.0 on 0, 0 0", "2: 0.1 on 1, 0 0", "3: 1.0 on 2, 1 0", "4: 1.1 on 3, 1 0")
	l.Tick(4)
	l.untouched("P17.3: again", func() { l.hears(ask(api.MsgRelease, 1), torn(2)) })
	l.exits(3, 0, -1)
	l.ticks(4)
	l.untouched("P17.3: again, when one has exited", func() { l.hears(ask(api.MsgRelease, 1), fine) })
	l.wrote(of(rec.Prolog, 0, 0), of(rec.Held, 0, 0, 1, 2), of(rec.Held, 1, 0, 3, 4), of(rec.Released, 1, 0))
}

// TestOtherEpochs has tasks of the same job and step in two epochs.
func TestOtherEpochs(t *testing.T) {
	l := upLab(t)
	l.hears(launch(0, order(0, 9)), fine, vote(0, 1))
	next := api.Msg{From: -1, To: id, Job: 5, Epoch: 2}
	l.Deliver(wire.Encode(next), fine)
	o := order(0, 9)
	o.Cred = cred.Sign(key, api.Cred{Job: 5, Epoch: 2, Until: 9, Nodes: []int{id}, Cores: 2})
	next.Kind, next.Text = api.MsgLaunch, agent.Pack(o)
	l.hears(next, fine, api.Msg{Kind: api.MsgVote, From: id, To: -1, Job: 5, Epoch: 2, Arg: 1})
	next.Kind = api.MsgRelease
	l.hears(next, fine)
	states := func(want ...int) {
		t.Helper()
		for i, x := range l.Tasks() {
			if i >= len(want) || x.State != want[i] {
				t.Errorf("P17.3: %v, want %v", l.Tasks(), want)
			}
		}
	}
	states(0, 0, 1, 1)
	// The older epoch is finished when its own tasks are gone.
	l.untouched("P17.3: a finish of what is held", func() { l.hears(ask(api.MsgFinish, 0), fine) })
	l.hears(ask(api.MsgAbort, 0), fine)
	states(1, 1)
	l.hears(ask(api.MsgFinish, 0), fine, reply(api.MsgGone, 0, 0))
	next.Kind = api.MsgFinish
	l.untouched("P17.3: a finish of what runs", func() { l.hears(next, fine) })
}

// TestTorn has each record torn at each place: nothing is told, and behind a crash all is as it was, or as it was to be.
func TestTorn(t *testing.T) {
	for _, c := range []struct {
		ahead []api.Msg
		m     api.Msg
		r     api.Rec
	}{
		{nil, ask(api.MsgProlog, 0), of(rec.Prolog, 0, 0)},
		{nil, ask(api.MsgFinish, 0), of(rec.Void, 0, 0)},
		{[]api.Msg{ask(api.MsgProlog, 0)}, launch(0, order(0, 9)), of(rec.Held, 0, 0, 1, 2)},
		{[]api.Msg{ask(api.MsgProlog, 0)}, ask(api.MsgAbort, 0), of(rec.Refused, 0, 0)},
		{[]api.Msg{ask(api.MsgProlog, 0)}, ask(api.MsgFinish, 0), of(rec.Epilog, 0, 0)},
		{[]api.Msg{ask(api.MsgProlog, 0), launch(0, order(0, 9))}, ask(api.MsgRelease, 0), of(rec.Released, 0, 0)},
		{[]api.Msg{ask(api.MsgProlog, 0), launch(0, order(0, 9))}, ask(api.MsgAbort, 0), of(rec.Aborted, 0, 0)},
	} {
		record := journal.Record(0, rec.Encode(c.r))
		for k := range len(record) + 3 {
			l, whole := newLab(t), newLab(t)
			for _, m := range c.ahead {
				l.Deliver(wire.Encode(m), fine)
				whole.Deliver(wire.Encode(m), fine)
			}
			before := l.all()
			log := l.Log()
			l.hears(c.m, torn(k))
			if !l.Down() || l.Log() != log+record[:min(k, len(record))] {
				t.Fatalf("P17.3: %v torn at %d: down %v, %q", c.r, k, l.Down(), l.Log())
			}
			l.isFree("")
			if s := l.State(); len(s.Jobs) != 0 || len(s.Steps) != 0 {
				t.Errorf("P17.2: the state of one that is down: %v", s)
			}
			l.recovers()
			want := before
			if k >= len(record) {
				whole.Deliver(wire.Encode(c.m), fine)
				want = whole.all()
			}
			if l.all() != want {
				t.Errorf("P17.6: %v torn at %d: %s, want %s", c.r, k, l.all(), want)
			}
		}
	}
}

// TestTornDown has what a torn record leaves done that was done ahead of it: till it recovers, the tasks are there.
func TestTornDown(t *testing.T) {
	l := upLab(t)
	l.hears(launch(0, order(0, 9)), torn(0))
	l.has("1: 0.0 on 0, 0 0", "2: 0.1 on 1, 0 0")
	l.recovers()
	l.has()
	// What was remembered of the credential is lost; no Pid is told twice.
	l.hears(launch(0, order(0, 9)), fine, vote(0, 1))
	l.has("3: 0.0 on 0, 0 0", "4: 0.1 on 1, 0 0")
	l.hears(ask(api.MsgRelease, 0), torn(99))
	l.has("3: 0.0 on 0, 0 0", "4: 0.1 on 1, 0 0")
	l.recovers()
	l.has("3: 0.0 on 0, 1 0", "4: 0.1 on 1, 1 0")
}
