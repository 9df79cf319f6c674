package world_test

import (
	"fmt"
	"slices"
	"testing"

	"roundhouse/agent"
	"roundhouse/api"
	"roundhouse/cred"
	"roundhouse/ctl"
	"roundhouse/rec"
	"roundhouse/wire"
	"roundhouse/world"
)

// newRun is a stage of one node of which a step of so many ranks runs.
func newRun(t *testing.T, ranks int) *stage {
	t.Helper()
	x := step()
	x.Ranks = ranks
	s := newStage(t, config(1), on([]int{0}, x))
	s.rounds(3)
	if l := s.Node(0).Tasks(); len(l) != ranks || l[0].State != api.Running {
		t.Fatalf("P20.2: tasks are %v", l)
	}
	return s
}

// states is what the states of a node's tasks are.
func (s *stage) states(node int) []int {
	var l []int
	for _, x := range s.Node(node).Tasks() {
		l = append(l, x.State)
	}
	return l
}

// known is what the controller knows of job 1.
func (s *stage) known() ctl.Job {
	j, _ := s.Ctl().Job(1)
	return j
}

func TestNoneOfThese(t *testing.T) {
	s := newRun(t, 2)
	s.does(true, world.Op{Do: send})
	s.untouched("P20.2: none of these", func() {
		for _, do := range []int{least, -1, 12, 13, 256, 1 << 32, most} {
			s.does(false, world.Op{Do: do}, world.Op{Do: do, A: 1, B: 1, C: 1, J: on([]int{0}, step())})
		}
	})
}

func TestSubmit(t *testing.T) {
	s := newStage(t, config(2))
	s.untouched("P20.2: jobs that may not be", func() {
		s.does(false,
			world.Op{J: on(nil, step())},
			world.Op{J: on([]int{1, 0}, step())},
			world.Op{J: on([]int{0})},
			world.Op{J: on([]int{0}, step(api.Edge{Step: 1}), step(api.Edge{Step: 0}))},
		)
	})
	for i := range 16 {
		// What a node is not there for may be asked for: the controller does not know.
		s.does(true, world.Op{A: 5, B: 5, C: 5, J: on([]int{i}, step())})
		if s.Ctl().Jobs() != i+1 || len(s.Given()) != i+1 || s.Given()[i].Nodes[0] != i {
			t.Errorf("P20.2: %d jobs, given were %v", s.Ctl().Jobs(), s.Given())
		}
	}
	s.untouched("P20.2: a job too many", func() { s.does(false, world.Op{J: on([]int{0}, step())}) })
}

func TestTick(t *testing.T) {
	s := newStage(t, config(3), on([]int{0}, step()))
	s.do(2, world.Op{Do: tick, A: 7, B: 7, C: 7})
	s.does(true, world.Op{Do: crash, A: 1})
	s.do(3, world.Op{Do: tick})
	for i, want := range []int{5, 2, 5} {
		if got := s.Node(i).Now(); s.Now() != 5 || got != want {
			t.Errorf("P20.2: at %d node %d is at %d, want %d", s.Now(), i, got, want)
		}
	}
}

func TestLastTick(t *testing.T) {
	s := newStage(t, config(1))
	for s.Now() < 1<<20 {
		before := s.Now()
		if !s.Do(world.Op{Do: tick}) || s.Now() != before+1 {
			t.Fatalf("P20.2: behind %d it is %d", before, s.Now())
		}
	}
	s.untouched("P20.2: behind 2^20", func() { s.does(false, world.Op{Do: tick}, world.Op{Do: tick}) })
	if s.Node(0).Now() != 1<<20 {
		t.Errorf("P20.2: the node is at %d", s.Node(0).Now())
	}
}

// TestSend has what is sent hang on the tick.
func TestSend(t *testing.T) {
	s := newStage(t, config(2))
	s.does(true, world.Op{Do: send})
	s.has()
	s.does(true, world.Op{Do: submit, J: on([]int{0, 1}, step())})
	s.do(2, world.Op{Do: send})
	p, q := asks(api.MsgProlog, 0, 0), asks(api.MsgProlog, 1, 0)
	s.has(p, q, p, q)
	s.rounds(0)
	for s.Do(world.Op{Do: deliver}) {
	}
	s.do(6, world.Op{Do: tick})
	s.does(true, world.Op{Do: send})
	m, _ := wire.Decode(s.Net().List()[1])
	o, _ := agent.Unpack(m.Text)
	if c, e := cred.Open("k", o.Cred); e != api.OK || c.From != 6 || c.Until != 14 {
		t.Errorf("P20.2: it is signed %v, %d", c, e)
	}
}

// TestDeliverTo has messages come to whom they are for.
func TestDeliverTo(t *testing.T) {
	s := newStage(t, config(2), on([]int{0, 1}, step()))
	s.untouched("P20.2: no message", func() { s.does(false, world.Op{Do: deliver}, world.Op{Do: tear}) })
	s.does(true, world.Op{Do: send}, world.Op{Do: deliver, A: -1})
	s.has(asks(api.MsgProlog, 0, 0), tells(api.MsgReady, 1, 0, 0))
	s.sees(wrote(rec.Prolog, 1, 0, 0))
	s.does(true, world.Op{Do: deliver, A: 3})
	s.has(asks(api.MsgProlog, 0, 0))
	s.does(true, world.Op{Do: deliver, A: -6})
	s.has(tells(api.MsgReady, 0, 0, 0))
	s.sees(wrote(rec.Prolog, 0, 0, 0))
	s.does(true, world.Op{Do: deliver, A: most})
	if s.has(); s.known().Phase != ctl.Runs {
		t.Errorf("P20.2: job %v", s.known())
	}
}

// TestNobodyThere has messages that are for nobody, or no messages.
func TestNobodyThere(t *testing.T) {
	for _, do := range []int{deliver, tear} {
		s := newStage(t, config(2), on([]int{0, 1}, step()))
		junk := []string{"", "junk", wire.Encode(asks(api.MsgProlog, 2, 0)), wire.Encode(asks(api.MsgProlog, 15, 0)), wire.Encode(asks(api.MsgProlog, 0, 0)) + "x"}
		s.untouched("P20.2: for nobody", func() {
			s.Net().Send(junk)
			s.do(len(junk), world.Op{Do: do})
		})
		s.does(true, world.Op{Do: crash})
		s.untouched("P20.2: for a node that is down", func() {
			s.Net().Send([]string{wire.Encode(asks(api.MsgProlog, 0, 0))})
			s.does(true, world.Op{Do: do})
		})
	}
}

// TestCode has prologs end by what the script chooses.
func TestCode(t *testing.T) {
	for _, c := range []struct{ code, arg, ready int }{
		{0, 0, 0}, {1, 1, 1}, {7, 7, 1}, {255, 255, 1}, {256, 1, 1}, {-1, 1, 1}, {most, 1, 1},
	} {
		s := newStage(t, config(1), on([]int{0}, step()))
		s.does(true, world.Op{Do: send}, world.Op{Do: deliver, B: c.code})
		s.has(tells(api.MsgReady, 0, 0, c.ready))
		s.sees(wrote(rec.Prolog, 0, 0, c.arg))
	}
}

// TestFail has a rank fail that the script chooses.
func TestFail(t *testing.T) {
	for _, c := range []struct{ fail, vote int }{
		{0, 1}, {1, 0}, {2, 0}, {3, 1}, {-1, 1}, {least, 1}, {most, 1},
	} {
		s := newStage(t, config(1), on([]int{0}, step()))
		s.rounds(1)
		s.does(true, world.Op{Do: send}, world.Op{Do: deliver, C: c.fail})
		s.has(tells(api.MsgVote, 0, 0, c.vote))
		if n := len(s.Node(0).Tasks()); n != 2*c.vote || s.Node(0).Down() {
			t.Errorf("P20.2: of C %d: %d tasks", c.fail, n)
		}
	}
}

// TestTear has records torn where the script chooses.
func TestTear(t *testing.T) {
	whole := newStage(t, config(1), on([]int{0}, step()))
	whole.does(true, world.Op{Do: send}, world.Op{Do: deliver})
	log := whole.Node(0).Log()
	for _, c := range []struct{ at, left int }{
		{least, 0}, {-1, 0}, {0, 0}, {1, 1}, {7, 7}, {len(log) - 1, len(log) - 1}, {len(log), len(log)}, {most, len(log)},
	} {
		s := newStage(t, config(1), on([]int{0}, step()))
		// What is chosen beside the place does not count: no code, and no rank that fails.
		s.does(true, world.Op{Do: send}, world.Op{Do: tear, B: c.at, C: 1})
		if got := s.Node(0).Log(); got != log[:c.left] || !s.Node(0).Down() {
			t.Errorf("P20.2: torn at %d: %q", c.at, got)
		}
		s.has()
		if c.left == len(log) {
			s.sees(wrote(rec.Prolog, 0, 0, 0))
		}
		s.sees()
		s.does(true, world.Op{Do: bringUp})
		s.rounds(3)
		if !slices.Equal(s.states(0), []int{api.Running, api.Running}) {
			t.Errorf("P20.2: torn at %d: behind that %v", c.at, s.states(0))
		}
	}
}

// TestTearNothing has messages come by which nothing is written.
func TestTearNothing(t *testing.T) {
	s := newStage(t, config(1), on([]int{0}, step()))
	s.does(true, world.Op{Do: send}, world.Op{Do: twice}, world.Op{Do: deliver}, world.Op{Do: tear})
	ready := tells(api.MsgReady, 0, 0, 0)
	s.has(ready, ready)
	s.does(true, world.Op{Do: tear}, world.Op{Do: tear, A: 4})
	if s.has(); s.known().Phase != ctl.Runs || s.Node(0).Down() {
		t.Errorf("P20.2: job %v", s.known())
	}
	s.does(true, world.Op{Do: send}, world.Op{Do: tear, A: 9, B: most, C: 2})
	if x, _ := rec.StepOf(s.Node(0).State(), 1, 0, 0); !s.Node(0).Down() || len(s.Node(0).Tasks()) != 2 || len(x.Pids) != 0 {
		t.Errorf("P20.2: a launch that is torn: %v", s.Node(0).Tasks())
	}
	s.sees(wrote(rec.Prolog, 0, 0, 0), wrote(rec.Held, 0, 0, 0))
}

func TestDropTwice(t *testing.T) {
	s := newStage(t, config(3), on([]int{0, 1, 2}, step()))
	s.does(false, world.Op{Do: drop}, world.Op{Do: twice})
	s.does(true, world.Op{Do: send}, world.Op{Do: twice, A: 4, B: 9, C: 9}, world.Op{Do: drop, A: -2, B: 9, C: 9})
	p, q := asks(api.MsgProlog, 0, 0), asks(api.MsgProlog, 1, 0)
	s.has(p, q, q)
	if s.Net().Lost() != 1 {
		t.Errorf("P20.2: %d are lost", s.Net().Lost())
	}
	s.does(true, world.Op{Do: twice, A: least}, world.Op{Do: drop, A: most})
	if len(s.Net().List()) != 3 {
		t.Errorf("P20.2: %q", s.Net().List())
	}
}

// TestExit has the task exit that the script chooses, and by that code.
func TestExit(t *testing.T) {
	for _, c := range []struct{ task, code, pid, want int }{
		{0, 0, 1, 0}, {1, 5, 2, 5}, {2, 255, 3, 255}, {3, 256, 1, 0}, {4, 1000, 2, 232},
		{-1, -1, 3, 255}, {-2, -256, 2, 0}, {-3, -300, 1, 212}, {most, most, most%3 + 1, 255}, {least, least, (least%3+3)%3 + 1, 0},
	} {
		s := newRun(t, 3)
		s.does(true, world.Op{Do: exit, B: c.task, C: c.code})
		x := s.Node(0).Tasks()[c.pid-1]
		if x.State != api.Exited || x.Code != c.want || x.Pid != c.pid {
			t.Errorf("P20.2: of %v: %v", c, s.Node(0).Tasks())
		}
		s.has()
	}
}

// TestExitOfWhich has those that do not run not count.
func TestExitOfWhich(t *testing.T) {
	s := newRun(t, 3)
	s.does(true, world.Op{Do: exit, B: 1, C: 4}, world.Op{Do: exit, B: 1, C: 6})
	if got := s.states(0); !slices.Equal(got, []int{api.Running, api.Exited, api.Exited}) {
		t.Errorf("P20.2: states are %v", got)
	}
	s.sees(wrote(rec.Prolog, 0, 0, 0), wrote(rec.Held, 0, 0, 0), world.Event{Kind: world.Goes, Node: -1, Job: 1}, wrote(rec.Released, 0, 0, 0))
	s.has()
	s.does(true, world.Op{Do: exit, B: 5, C: 2})
	s.has(tells(api.MsgEnded, 0, 0, 6))
	s.sees(wrote(rec.Ended, 0, 0, 6))
	s.untouched("P20.2: nobody runs", func() { s.does(false, world.Op{Do: exit}, world.Op{Do: cut}) })

	held := newStage(t, config(1), on([]int{0}, step()))
	held.rounds(2)
	held.untouched("P20.2: all are held", func() { held.does(false, world.Op{Do: exit}, world.Op{Do: cut}) })
}

// TestExitWhere has tasks of two nodes exit.
func TestExitWhere(t *testing.T) {
	for _, c := range []struct{ a, node int }{{0, 0}, {1, 1}, {2, 0}, {3, 1}, {-1, 1}, {-2, 0}, {most, 1}, {least, 0}} {
		for _, do := range []int{exit, cut} {
			s := newStage(t, config(2), on([]int{0, 1}, step()))
			s.rounds(3)
			s.does(true, world.Op{Do: do, A: c.a})
			if !slices.Equal(s.states(c.node), []int{api.Exited, api.Running}) || !slices.Equal(s.states(1-c.node), []int{api.Running, api.Running}) {
				t.Errorf("P20.2: of A %d: %v, %v", c.a, s.states(0), s.states(1))
			}
			s.does(true, world.Op{Do: crash, A: c.a})
			s.untouched("P20.2: tasks of a node that is down", func() { s.does(false, world.Op{Do: do, A: c.a}) })
		}
	}
}

// TestCut has the record of a step's end torn.
func TestCut(t *testing.T) {
	whole := newRun(t, 1)
	before := whole.Node(0).Log()
	whole.does(true, world.Op{Do: exit})
	log := whole.Node(0).Log()
	for _, c := range []struct{ at, left int }{
		{least, 0}, {-1, 0}, {0, 0}, {3, 3}, {len(log) - len(before) - 1, len(log) - len(before) - 1}, {most, len(log) - len(before)},
	} {
		s := newRun(t, 1)
		s.rounds(1)
		s.do(2, world.Op{Do: tick})
		s.seen = len(s.Events())
		s.does(true, world.Op{Do: cut, B: 9, C: c.at})
		if got := s.Node(0).Log(); got != log[:len(before)+c.left] || !s.Node(0).Down() {
			t.Errorf("P20.2: torn at %d: %q", c.at, got)
		}
		s.has()
		if l := s.Node(0).Tasks(); len(l) != 1 || l[0].State != api.Exited || l[0].Code != 0 {
			t.Errorf("P20.2: torn at %d: %v", c.at, l)
		}
		if c.left < len(log)-len(before) {
			// It is written by Recover, and answered.
			s.does(true, world.Op{Do: bringUp})
			s.has(tells(api.MsgEnded, 0, 0, 0))
		}
		s.sees(wrote(rec.Ended, 0, 0, 0))
	}
}

// TestCutOne has one task of two exit: nothing is written, and so nothing torn.
func TestCutOne(t *testing.T) {
	s := newRun(t, 2)
	s.does(true, world.Op{Do: cut, B: 1, C: 0})
	if got := s.states(0); !slices.Equal(got, []int{api.Running, api.Exited}) || s.Node(0).Down() {
		t.Errorf("P20.2: states are %v", got)
	}
}

func TestCrash(t *testing.T) {
	for _, c := range []struct{ a, node int }{{0, 0}, {1, 1}, {3, 0}, {5, 2}, {-1, 2}, {-3, 0}, {most, most % 3}, {least, (least%3 + 3) % 3}} {
		s := newStage(t, config(3), on([]int{0, 1, 2}, step()))
		s.rounds(3)
		before := all(s.World)
		s.untouched("P20.2: it is up", func() { s.does(false, world.Op{Do: bringUp, A: c.a}) })
		s.does(true, world.Op{Do: crash, A: c.a, B: 7, C: 7})
		for i := range 3 {
			if s.Node(i).Down() != (i == c.node) {
				t.Errorf("P20.2: of A %d: node %d is down: %v", c.a, i, s.Node(i).Down())
			}
		}
		s.untouched("P20.2: it is down", func() { s.does(false, world.Op{Do: crash, A: c.a}) })
		s.does(true, world.Op{Do: bringUp, A: c.a, B: 7, C: 7})
		if got := all(s.World); got != before {
			t.Errorf("P3: behind a crash of %d it is\n%s\nand was\n%s", c.node, got, before)
		}
	}
}

// TestBringUp has a node recover, at a later tick, to tasks whose time is over.
func TestBringUp(t *testing.T) {
	s := newRun(t, 2)
	s.do(1, world.Op{Do: tick})
	s.does(true, world.Op{Do: crash})
	s.do(3, world.Op{Do: tick})
	if s.Node(0).Now() != 1 || s.Node(0).Signalled(1) != 0 {
		t.Errorf("P20.2: it is down at %d", s.Node(0).Now())
	}
	s.does(true, world.Op{Do: bringUp})
	if s.Node(0).Now() != 4 || s.Node(0).Signalled(1) != 15 || s.Node(0).Signalled(2) != 15 {
		t.Errorf("P20.2: it is up at %d, and signals by %d", s.Node(0).Now(), s.Node(0).Signalled(1))
	}
	s.does(true, world.Op{Do: crash})
	s.do(5, world.Op{Do: tick})
	s.does(true, world.Op{Do: bringUp})
	if s.Node(0).Now() != 9 || s.Node(0).Signalled(1) != 9 {
		t.Errorf("P20.2: it is up at %d, and signals by %d", s.Node(0).Now(), s.Node(0).Signalled(1))
	}
}

func TestCancel(t *testing.T) {
	s := newStage(t, config(1), on([]int{0}, step()), on([]int{0}, step()))
	s.untouched("P20.2: no such job", func() {
		for _, id := range []int{least, -1, 0, 3, most} {
			s.does(false, world.Op{Do: cancel, A: id})
		}
	})
	s.rounds(3)
	s.does(true, world.Op{Do: cancel, A: 1}, world.Op{Do: cancel, A: 1, B: 2, C: 2})
	s.rounds(1)
	signals := fmt.Sprint(s.Node(0).Signalled(1), s.Node(0).Signalled(2), s.Node(0).Signalled(3), s.Node(0).Signalled(4))
	if signals != "15 15 0 0" {
		t.Errorf("P20.2: signalled by %s", signals)
	}
	s.does(true, world.Op{Do: exit, C: 3}, world.Op{Do: exit})
	s.rounds(1)
	if j := s.known(); j.Phase != ctl.Finishes || j.Fate != ctl.Failed || j.Code != 3 {
		t.Errorf("P20.2: job %v", j)
	}
	s.untouched("P20.2: it finishes", func() { s.does(false, world.Op{Do: cancel, A: 1}) })
}
