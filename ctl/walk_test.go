package ctl_test

import (
	"fmt"
	"slices"
	"testing"

	"roundhouse/api"
	"roundhouse/ctl"
	"roundhouse/wire"
)

type dice uint64

func (d *dice) below(n int) int {
	*d = *d*6364136223846793005 + 1442695040888963407
	return int(uint64(*d) >> 33 % uint64(n))
}

// seldom is what, once in so many times, and else other.
func (d *dice) seldom(n, what, other int) int {
	if d.below(n) == 0 {
		return what
	}
	return other
}

// submitted throws a job of few nodes and steps.
func (d *dice) submitted() api.Job {
	var j api.Job
	for node := range 16 {
		if d.below(6) == 0 {
			j.Nodes = append(j.Nodes, node)
		}
	}
	for i := range 1 + d.below(5) {
		s := api.Step{Ranks: 1 + d.below(9), Per: 1 + d.below(9), Dist: d.below(2), Limit: 1 + d.below(30)}
		for k := range i {
			if d.below(3) == 0 {
				s.After = append(s.After, api.Edge{Step: k, Kind: d.below(3)})
			}
		}
		j.Steps = append(j.Steps, s)
	}
	return j
}

// answer throws what a node says to a message, or to none.
func (d *dice) answer(all []api.Msg) api.Msg {
	m := api.Msg{Kind: d.below(10), From: d.below(16), To: d.seldom(9, 0, -1), Job: d.below(5), Epoch: d.below(3), Step: d.below(6), Arg: d.below(3)}
	if len(all) == 0 || d.below(9) == 0 {
		return m
	}
	x := all[d.below(len(all))]
	m.To, m.From, m.Job, m.Epoch, m.Step = -1, x.To, x.Job, d.seldom(30, x.Epoch+1, x.Epoch), d.seldom(20, d.below(6), x.Step)
	switch x.Kind {
	case api.MsgProlog:
		m.Kind, m.Arg = api.MsgReady, d.seldom(30, d.below(5), 0)
	case api.MsgLaunch:
		m.Kind, m.Arg = api.MsgVote, d.seldom(25, d.below(4), 1)
	case api.MsgRelease, api.MsgCancel:
		m.Kind, m.Arg = api.MsgEnded, d.seldom(4, d.below(300), 0)
	case api.MsgAbort:
		m.Kind, m.Arg = api.MsgVote, d.below(2)
	case api.MsgFinish:
		m.Kind, m.Arg = api.MsgGone, d.below(2)
	}
	return m
}

// jobs is a controller's, by the document's words.
type jobs []*work

func (l jobs) outbox(now int) []api.Msg {
	var all []api.Msg
	for _, w := range l {
		all = append(all, w.outbox(now)...)
	}
	return all
}

// cancel is what Cancel answers.
func (l jobs) cancel(id int) api.Errno {
	if id < 1 || id > len(l) {
		return api.ErrArg
	}
	w := l[id-1]
	if w.phase > ctl.Runs {
		return api.ErrState
	}
	w.asked = true
	if w.phase == ctl.Runs {
		w.look()
	}
	return api.OK
}

// step does one thing that is thrown to both, and is whether they answer the same to it.
func (d *dice) step(c *ctl.Ctl, l *jobs, now int) (string, bool) {
	switch n := d.below(300); {
	case n < 3 && len(*l) < 4:
		j := d.submitted()
		id, e := c.Submit(j)
		if len(j.Nodes) == 0 {
			return "Submit", id == 0 && e == api.ErrArg
		}
		*l = append(*l, newWork(len(*l)+1, 0, j, false))
		return fmt.Sprint("Submit ", j), id == len(*l) && e == api.OK
	case n < 5:
		id := d.below(6)
		return fmt.Sprint("Cancel ", id), c.Cancel(id) == l.cancel(id)
	}
	m := d.answer(l.outbox(now))
	counts := false
	if m.Job > 0 && m.Job <= len(*l) {
		(*l)[m.Job-1], counts = (*l)[m.Job-1].hear(m)
	}
	return fmt.Sprint("Deliver ", m), c.Deliver(wire.Encode(m)) == counts
}

func TestWalk(t *testing.T) {
	over, again := map[int]int{}, 0
	for seed := range 200 {
		d := dice(seed)
		c, l := ctl.New(key), jobs{}
		seen := ledger{}
		for now := range 300 {
			what, same := d.step(c, &l, now)
			if !same {
				t.Fatalf("P18.2: %s is answered otherwise", what)
			}
			out := c.Outbox(now)
			if !slices.EqualFunc(out, l.outbox(now), func(s string, m api.Msg) bool { return s == wire.Encode(m) }) {
				t.Fatalf("P18.3: behind %s: Outbox = %q, want %v", what, out, l.outbox(now))
			}
			for i, w := range l {
				if k, is := c.Job(i + 1); !is || fmt.Sprint(k) != fmt.Sprint(w.known()) {
					t.Fatalf("P18.4: behind %s: Job = %v, %v, want %v", what, k, is, w.known())
				}
			}
			seen.follows(t, out, l)
		}
		for _, w := range l {
			over[10*w.phase+w.fate]++
			again += w.epoch
		}
	}
	for _, end := range []int{10 * ctl.Runs, 10*ctl.Over + ctl.Fine, 10*ctl.Over + ctl.Failed} {
		if over[end] < 20 {
			t.Errorf("the walks come to this %d times: phase %d, fate %d", over[end], end/10, end%10)
		}
	}
	if again < 20 {
		t.Errorf("jobs are tried again %d times", again)
	}
}

// ledger is what was said of each step of each epoch: bit 0 that it is released, bit 1 that it is aborted.
type ledger map[[3]int]int

// follows fails unless what follows from the document holds of what is said.
func (s ledger) follows(t *testing.T, out []string, l jobs) {
	t.Helper()
	for _, x := range out {
		m, _ := wire.Decode(x)
		at := [3]int{m.Job, m.Epoch, m.Step}
		w := l[m.Job-1]
		switch m.Kind {
		case api.MsgAbort:
			s[at] |= 2
		case api.MsgRelease:
			s[at] |= 1
			for _, node := range w.Nodes {
				if w.steps[m.Step].votes[node] != 1 {
					t.Fatalf("P18.5: %v, but node %d did not vote yes", m, node)
				}
			}
			for _, e := range w.Steps[m.Step].After {
				code := w.codes[e.Step]
				if holds := [3]bool{code == 0, code != -1, code >= 1 && code <= 255}[e.Kind]; !holds {
					t.Fatalf("P18.5: %v, but step %d ended by %d", m, e.Step, code)
				}
			}
		}
		if s[at] == 3 {
			t.Fatalf("P18.5: step %v is released, and aborted", at)
		}
	}
}
