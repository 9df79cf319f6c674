package agent_test

import (
	"testing"

	"roundhouse/agent"
	"roundhouse/api"
	"roundhouse/journal"
	"roundhouse/rec"
)

// runsLab is one where step 0 runs from tick 3 on, in two tasks of two cores, and step 1 is held.
func runsLab(t *testing.T) *lab {
	t.Helper()
	l := upLab(t)
	o := order(0, 9)
	o.Per = 2
	l.hears(launch(0, o), fine, vote(0, 1))
	l.hears(launch(1, order(1, 9)), fine, vote(1, 1))
	l.Tick(3)
	l.hears(ask(api.MsgRelease, 0), fine)
	return l
}

func TestExitWrong(t *testing.T) {
	l := runsLab(t)
	l.untouched("P17.4: no task, or no code", func() {
		for _, pid := range []int{least, -1, 0, 5, most} {
			l.exits(pid, 0, -1)
			l.exits(pid, 0, 0)
		}
		for _, code := range []int{least, -1, 256, most} {
			l.exits(1, code, -1)
			l.exits(1, code, 0)
		}
		// One that is held does not exit of itself.
		l.exits(3, 0, -1)
		l.exits(3, 0, 0)
	})
	l.exits(1, 255, 0) // not the last one: nothing is written, and so nothing torn
	l.untouched("P17.4: again", func() { l.exits(1, 0, 0) })
	l.has("1: 0.0 on 0-1, 2 255", "2: 0.1 on 2-3, 1 0", "3: 1.0 on 4, 0 0", "4: 1.1 on 5, 0 0")
	l.Crash()
	l.untouched("P17.4: it is down", func() { l.exits(2, 0, -1) })
}

// TestExit has a step end by the worst of its tasks' codes, whichever exits last.
func TestExit(t *testing.T) {
	for _, c := range []struct{ first, second, want int }{{0, 0, 0}, {7, 0, 7}, {0, 7, 7}, {255, 3, 255}, {1, 2, 2}} {
		for order := range 2 {
			l := runsLab(t)
			pids := [2]int{1, 2}
			if order == 1 {
				pids = [2]int{2, 1}
			}
			l.Tick(5)
			l.exits(pids[0], c.first, -1)
			l.ticks(4)
			l.isFree("6-7")
			l.Tick(9)
			l.exits(pids[1], c.second, -1, reply(api.MsgEnded, 0, c.want))
			l.ticks(4 + 12)
			l.isFree("0-3,6-7")
			l.has("3: 1.0 on 4, 0 0", "4: 1.1 on 5, 0 0")
			l.wrote(of(rec.Prolog, 0, 0), of(rec.Held, 0, 0, 1, 2), of(rec.Held, 1, 0, 3, 4), of(rec.Released, 0, 0), of(rec.Ended, 0, c.want))
		}
	}
}

// TestExitTorn has the last record of a step torn at each place: it ended, or is ended when the agent recovers; what was used counts once.
func TestExitTorn(t *testing.T) {
	record := journal.Record(0, rec.Encode(of(rec.Ended, 0, 9)))
	for k := range len(record) + 2 {
		l := runsLab(t)
		l.Tick(4)
		l.exits(1, 9, k)
		log := l.Log()
		l.exits(2, 0, k)
		if !l.Down() || l.Log() != log+record[:min(k, len(record))] {
			t.Fatalf("P17.4: torn at %d: down %v, %q", k, l.Down(), l.Log())
		}
		l.has("1: 0.0 on 0-1, 2 9", "2: 0.1 on 2-3, 2 0", "3: 1.0 on 4, 0 0", "4: 1.1 on 5, 0 0")
		l.ticks(4)
		if k < len(record) {
			l.recovers(reply(api.MsgEnded, 0, 9))
		} else {
			l.recovers()
		}
		l.ticks(4)
		l.isFree("0-3,6-7")
		l.has("3: 1.0 on 4, 0 0", "4: 1.1 on 5, 0 0")
		l.wrote(of(rec.Prolog, 0, 0), of(rec.Held, 0, 0, 1, 2), of(rec.Held, 1, 0, 3, 4), of(rec.Released, 0, 0), of(rec.Ended, 0, 9))
		l.hears(ask(api.MsgRelease, 0), fine, reply(api.MsgEnded, 0, 9))
	}
}

func TestTickWrong(t *testing.T) {
	l := runsLab(t)
	l.untouched("P17.5: no tick behind this one", func() {
		for _, now := range []int{least, -1, 0, 2, 3, 1<<40 + 1, most} {
			l.Tick(now)
		}
	})
	l.Crash()
	l.untouched("P17.5: it is down", func() { l.Tick(4) })
	l.recovers()
	l.Tick(1 << 40)
	if l.Now() != 1<<40 {
		t.Errorf("P17.5: the tick is %d", l.Now())
	}
	l.signals(9, 9, 0, 0)
	// The last tick of all: what begins then has its limit behind it.
	l.hears(ask(api.MsgRelease, 1), fine)
	l.Tick(1 << 40)
	l.signals(9, 9, 0, 0)
	l.hears(ask(api.MsgCancel, 1), fine)
	l.signals(9, 9, 15, 15)
	l.exits(3, 0, -1)
	l.ticks(0)
}

// TestLimit has a step whose limit is 10 run from 3 on: it is asked to end at 13, and killed two ticks later.
func TestLimit(t *testing.T) {
	for _, ticks := range [][]int{{4, 12, 13, 14, 15, 16, 30}, {12, 14, 15}, {13, 15}, {14, 16}, {12, 15}, {15}, {100}, {4, 99}} {
		l := runsLab(t)
		for _, now := range ticks {
			l.Tick(now)
			want := 0
			if now >= 13 {
				want = 15
			}
			if now >= 15 {
				want = 9
			}
			l.signals(want, want, 0, 0)
			if l.Now() != now {
				t.Errorf("P17.5: the tick is %d, want %d", l.Now(), now)
			}
		}
		// They run as long as they want to.
		l.has("1: 0.0 on 0-1, 1 0", "2: 0.1 on 2-3, 1 0", "3: 1.0 on 4, 0 0", "4: 1.1 on 5, 0 0")
		l.hears(ask(api.MsgRelease, 1), fine)
		l.Tick(l.Now() + 9)
		l.signals(9, 9, 0, 0)
		l.Tick(l.Now() + 1)
		l.signals(9, 9, 15, 15)
	}
}

// TestLimits has steps of two limits, by one tick.
func TestLimits(t *testing.T) {
	l := upLab(t)
	for step, limit := range []int{1, 6, 5, 1 << 30} {
		o := order(step, 9)
		o.Ranks, o.Limit = 1, limit
		l.hears(launch(step, o), fine, vote(step, 1))
		l.hears(ask(api.MsgRelease, step), fine)
	}
	l.Tick(1)
	l.signals(15, 0, 0, 0)
	l.Tick(5)
	l.signals(9, 0, 15, 0)
	l.exits(3, 143, -1, reply(api.MsgEnded, 2, 143))
	l.Tick(6)
	l.signals(9, 15, 0)
	l.Tick(1<<30 - 1)
	l.signals(9, 9, 0)
	l.Tick(1 << 30)
	l.signals(9, 9, 15)
	l.Tick(1<<30 + 1)
	l.signals(9, 9, 15)
	l.Tick(1<<30 + 2)
	l.signals(9, 9, 9)
}

// TestExitedIsNotSignalled has one task of two exit ahead of the limit: the limit is the step's still.
func TestExitedIsNotSignalled(t *testing.T) {
	l := runsLab(t)
	l.Tick(5)
	l.exits(1, 0, -1)
	l.Tick(12)
	l.signals(0, 0, 0, 0)
	l.Tick(13)
	l.signals(0, 15, 0, 0)
	l.Tick(15)
	l.signals(0, 9, 0, 0)
	l.exits(2, 137, -1, reply(api.MsgEnded, 0, 137))
	l.ticks(4 + 24)
}

// TestCancel has a step's end asked: it is killed a grace behind the first asking.
func TestCancel(t *testing.T) {
	l := runsLab(t)
	l.untouched("P17.3: a cancel of what is held, or not there", func() {
		l.hears(ask(api.MsgCancel, 1), torn(0))
		l.hears(ask(api.MsgCancel, 2), torn(0))
	})
	l.Tick(5)
	l.hears(ask(api.MsgCancel, 0), torn(0))
	if l.Down() {
		t.Error("P17.3: nothing was written, and so nothing torn")
	}
	l.signals(15, 15, 0, 0)
	l.Tick(6)
	l.hears(ask(api.MsgCancel, 0), fine)
	l.signals(15, 15, 0, 0)
	l.Tick(7)
	l.signals(9, 9, 0, 0)
	l.hears(ask(api.MsgCancel, 0), fine)
	l.signals(9, 9, 0, 0)
	l.wrote(of(rec.Prolog, 0, 0), of(rec.Held, 0, 0, 1, 2), of(rec.Held, 1, 0, 3, 4), of(rec.Released, 0, 0))
}

// TestCancelLate has a step's end asked behind its limit: the limit counts.
func TestCancelLate(t *testing.T) {
	l := runsLab(t)
	l.Tick(14)
	l.hears(ask(api.MsgCancel, 0), fine)
	l.signals(15, 15, 0, 0)
	l.Tick(15)
	l.signals(9, 9, 0, 0)
}

// TestCancelIsForgotten has a crash behind the asking: the limit alone counts then, till it is asked again.
func TestCancelIsForgotten(t *testing.T) {
	l := runsLab(t)
	l.Tick(5)
	l.hears(ask(api.MsgCancel, 0), fine)
	l.Crash()
	l.recovers()
	l.signals(15, 15, 0, 0)
	l.Tick(8)
	l.signals(15, 15, 0, 0)
	l.hears(ask(api.MsgCancel, 0), fine)
	l.Tick(9)
	l.signals(15, 15, 0, 0)
	l.Tick(10)
	l.signals(9, 9, 0, 0)
}

// TestRecoverUp has one that is up: nothing is done.
func TestRecoverUp(t *testing.T) {
	l := runsLab(t)
	l.Tick(5)
	l.hears(ask(api.MsgCancel, 0), fine)
	l.hears(launch(2, order(2, 9)), agent.Choice{Fail: 0, Tear: -1}, vote(2, 0))
	l.untouched("P17.6: it is up", func() { l.told(l.Recover()) })
	// It remembers that the end was asked, and what was used.
	l.hears(launch(2, order(2, 9)), fine, vote(2, 0))
	l.Tick(7)
	l.signals(9, 9, 0, 0)
}

// TestCrash has what is told of one that is down: what lasts, and nothing else.
func TestCrash(t *testing.T) {
	l := runsLab(t)
	l.Tick(5)
	l.exits(1, 4, -1)
	before := l.all()
	log := l.Log()
	for range 2 {
		l.Crash()
		l.has("1: 0.0 on 0-1, 2 4", "2: 0.1 on 2-3, 1 0", "3: 1.0 on 4, 0 0", "4: 1.1 on 5, 0 0")
		l.isFree("")
		l.ticks(4)
		if s := l.State(); !l.Down() || l.Log() != log || l.Now() != 5 || len(s.Jobs) != 0 || len(s.Steps) != 0 || s.Drained {
			t.Errorf("P17.6: %s", l.all())
		}
	}
	l.recovers()
	if l.all() != before {
		t.Errorf("P17.6: %s, want %s", l.all(), before)
	}
	// It goes on where it was.
	l.exits(2, 0, -1, reply(api.MsgEnded, 0, 4))
	l.hears(launch(2, order(2, 9)), fine, vote(2, 1))
	l.has("3: 1.0 on 4, 0 0", "4: 1.1 on 5, 0 0", "5: 2.0 on 0, 0 0", "6: 2.1 on 1, 0 0")
}

// TestDrainedLasts has a node that is drained, and stays so.
func TestDrainedLasts(t *testing.T) {
	l := newLab(t)
	l.hears(ask(api.MsgProlog, 0), agent.Choice{Code: 3, Fail: -1, Tear: -1}, reply(api.MsgReady, 0, 1))
	l.Crash()
	l.recovers()
	l.wrote(of(rec.Prolog, 0, 3))
	next := ask(api.MsgProlog, 0)
	next.Job = 6
	l.hears(next, fine, api.Msg{Kind: api.MsgReady, From: id, To: -1, Job: 6, Epoch: 1, Arg: 1})
}

// TestRecoverSignals has a crash at a tick: behind it the tasks are signalled as the ladder says at that tick, whatever was lost.
func TestRecoverSignals(t *testing.T) {
	for now := 3; now < 20; now++ {
		l := runsLab(t)
		l.Tick(now)
		l.signals(due(now), due(now), 0, 0)
		l.Crash()
		l.recovers()
		l.signals(due(now), due(now), 0, 0)
		if l.Now() != now {
			t.Errorf("P17.6: the tick is %d", l.Now())
		}
		l.Tick(now + 1)
		l.signals(due(now+1), due(now+1), 0, 0)
	}
}

// due is how a task that runs from 3 on, for 10 ticks, is signalled.
func due(now int) int {
	switch {
	case now >= 15:
		return 9
	case now >= 13:
		return 15
	}
	return 0
}

// TestRecoverReleases has the record of a release whole, and the tasks held yet: they start when the agent recovers, and run as long as they may from then on.
func TestRecoverReleases(t *testing.T) {
	l := runsLab(t)
	l.Tick(4)
	l.hears(ask(api.MsgRelease, 1), torn(1000))
	l.recovers()
	l.has("1: 0.0 on 0-1, 1 0", "2: 0.1 on 2-3, 1 0", "3: 1.0 on 4, 1 0", "4: 1.1 on 5, 1 0")
	l.Tick(13)
	l.signals(15, 15, 0, 0)
	l.Tick(14)
	l.signals(15, 15, 15, 15)
	l.exits(3, 0, -1)
	l.ticks(10)
	l.exits(1, 0, -1)
	l.ticks(10 + 22)
}

// TestRecoverEnds has two steps whose tasks all exited, and one whose did not, at a crash: those are ended, step by step.
func TestRecoverEnds(t *testing.T) {
	l := upLab(t)
	for step := range 3 {
		o := order(step, 9)
		o.Ranks = 1
		l.hears(launch(step, o), fine, vote(step, 1))
		l.hears(ask(api.MsgRelease, step), fine)
	}
	l.Tick(2)
	l.exits(3, 8, 0)
	l.recovers(reply(api.MsgEnded, 2, 8))
	l.ticks(2)
	l.has("1: 0.0 on 0, 1 0", "2: 1.0 on 1, 1 0")
	l.isFree("2-7")
	l.exits(1, 7, 3)
	l.exits(2, 6, 3) // it is down
	l.recovers(reply(api.MsgEnded, 0, 7))
	l.exits(2, 6, -1, reply(api.MsgEnded, 1, 6))
	l.wrote(of(rec.Prolog, 0, 0), of(rec.Held, 0, 0, 1), of(rec.Released, 0, 0), of(rec.Held, 1, 0, 2), of(rec.Released, 1, 0), of(rec.Held, 2, 0, 3), of(rec.Released, 2, 0), of(rec.Ended, 2, 8), of(rec.Ended, 0, 7), of(rec.Ended, 1, 6))
}

// TestRecoverCores has steps in each phase at a crash: those that live have their cores, in whatever shape.
func TestRecoverCores(t *testing.T) {
	l := upLab(t)
	for step := range 4 {
		o := order(step, 9)
		o.Dist = api.Cyclic
		l.hears(launch(step, o), fine, vote(step, 1))
	}
	l.isFree("")
	l.hears(ask(api.MsgAbort, 1), fine)
	l.hears(ask(api.MsgRelease, 2), fine)
	l.hears(ask(api.MsgRelease, 3), fine)
	l.exits(7, 1, -1)
	l.exits(8, 1, -1, reply(api.MsgEnded, 3, 1))
	l.isFree("1,3,5,7")
	before := l.all()
	l.Crash()
	l.recovers()
	if l.all() != before {
		t.Errorf("P17.6: %s, want %s", l.all(), before)
	}
	// They may be freed, and had again.
	l.hears(ask(api.MsgAbort, 0), fine)
	l.isFree("0-1,3-5,7")
	l.exits(5, 0, -1)
	l.exits(6, 0, -1, reply(api.MsgEnded, 2, 0))
	l.isFree("0-7")
	l.hears(launch(4, order(4, 9)), fine, vote(4, 1))
	l.isFree("2-7")
}

// TestExample is the document's: a crash ahead of a record's end.
func TestExample(t *testing.T) {
	l := upLab(t)
	before := l.all()
	l.hears(launch(0, order(0, 9)), torn(7))
	l.recovers()
	if l.all() != before {
		t.Errorf("P17.6: %s, want %s", l.all(), before)
	}
}
