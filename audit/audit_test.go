package audit_test

import (
	"math"
	"slices"
	"testing"

	"roundhouse/agent"
	"roundhouse/api"
	"roundhouse/audit"
	"roundhouse/cores"
	"roundhouse/cred"
	"roundhouse/ctl"
	"roundhouse/wire"
	"roundhouse/world"
)

const (
	least = math.MinInt
	most  = math.MaxInt
)

// stage is a world that is tried.
type stage struct {
	*testing.T
	*world.World
}

// newStage is one of so many nodes, of two sockets of four cores each.
func newStage(t *testing.T, nodes int, jobs ...api.Job) *stage {
	t.Helper()
	layouts := slices.Repeat([]cores.Layout{{Sockets: 2, Per: 4}}, nodes)
	w, e := world.New(world.Config{Layouts: layouts, Key: "k", Grace: 2, Kill: 1})
	if e != api.OK {
		t.Fatalf("New: %d", e)
	}
	s := &stage{t, w}
	for _, j := range jobs {
		s.does(world.Op{J: j})
	}
	return s
}

// does fails unless something is done by each op.
func (s *stage) does(ops ...world.Op) {
	s.Helper()
	for _, o := range ops {
		if !s.Do(o) {
			s.Errorf("Do(%v) does nothing", o)
		}
	}
}

// rounds sends so many times, and each time delivers till nothing is on its way.
func (s *stage) rounds(n int) {
	s.Helper()
	for range n {
		s.does(world.Op{Do: 2})
		for s.Do(world.Op{Do: 3}) {
		}
	}
}

// says has the controller say something to node 0, though it did not.
func (s *stage) says(m api.Msg) {
	s.Helper()
	m.From = -1
	s.Net().Send([]string{wire.Encode(m)})
	s.does(world.Op{Do: 3, A: -1})
}

// is fails unless the world is so: how many tasks, and nodes that are down, whether it is idle, and what is not sound.
func (s *stage) is(want audit.Counts, idle bool, unsound api.Errno) {
	s.Helper()
	if n := audit.Count(s.World); n != want {
		s.Errorf("P22.1: %v, want %v", n, want)
	}
	if got := audit.Idle(s.World); got != idle {
		s.Errorf("P22.3: %v", got)
	}
	if e := audit.Check(s.World); e != unsound {
		s.Errorf("P22.2: %d, want %d", e, unsound)
	}
}

// owned fails unless the node's cores have these owners.
func (s *stage) owned(node int, want ...audit.Owner) {
	s.Helper()
	if l := audit.Owners(s.World, node); !slices.Equal(l, want) {
		s.Errorf("P22.1: Owners of %d: %v, want %v", node, l, want)
	}
}

// two is a job on nodes 0 and 2, of a step of two ranks of two cores each, round the sockets.
func two() api.Job {
	return api.Job{Nodes: []int{0, 2}, Steps: []api.Step{{Ranks: 2, Per: 2, Dist: api.Cyclic, Limit: 9}}}
}

func TestOfNothing(t *testing.T) {
	if audit.Check(nil) != api.ErrArg || audit.Idle(nil) || audit.Count(nil) != (audit.Counts{}) || len(audit.Owners(nil, 0)) > 0 {
		t.Error("P22.2: of nil")
	}
	if e := audit.Check(&world.World{}); e != api.OK || audit.Count(&world.World{}) != (audit.Counts{}) {
		t.Errorf("P22.2: of the zero world: %d", e)
	}
	for _, node := range []int{least, -1, 3, 16, most} {
		s := newStage(t, 3, two())
		s.rounds(2)
		s.owned(node)
	}
	s := newStage(t, 3)
	s.is(audit.Counts{}, true, api.OK)
	s.owned(0)
}

// TestExample is the example of the document.
func TestExample(t *testing.T) {
	s := newStage(t, 1, api.Job{Nodes: []int{0}, Steps: []api.Step{{Ranks: 1, Per: 2, Limit: 9}}})
	s.rounds(2)
	s.owned(0, audit.Owner{Core: 0, Pid: 1, Job: 1}, audit.Owner{Core: 1, Pid: 1, Job: 1})
}

// TestOwners has cores owned from when a step is held until all of it has exited, whether the node is up or not.
func TestOwners(t *testing.T) {
	j := two()
	j.Steps = append([]api.Step{{Ranks: 1, Per: 1, Limit: 9}}, j.Steps...)
	s := newStage(t, 3, api.Job{Nodes: []int{1}, Steps: j.Steps[:1]}, j)
	s.rounds(1)
	s.owned(0)
	s.rounds(1)
	first := audit.Owner{Pid: 1, Job: 1}
	o := func(core, pid, step, rank int) audit.Owner {
		return audit.Owner{Core: core, Pid: pid, Job: 2, Step: step, Rank: rank}
	}
	want := []audit.Owner{o(0, 1, 0, 0), o(1, 2, 1, 0), o(2, 3, 1, 1), o(4, 2, 1, 0), o(5, 3, 1, 1)}
	same := func() {
		t.Helper()
		s.owned(0, want...)
		s.owned(1, first)
		s.owned(2, want...)
	}
	same()
	s.does(world.Op{Do: 9, A: 0}, world.Op{Do: 9, A: 1})
	same()
	s.does(world.Op{Do: 10, A: 0}, world.Op{Do: 10, A: 1})
	s.rounds(1)
	s.does(world.Op{Do: 7, A: 0, B: 1})
	same()
	l := audit.Owners(s.World, 2)
	l[0].Core = 7
	same()
	s.does(world.Op{Do: 7, A: 0, B: 1})
	s.owned(0, want[0])
	s.does(world.Op{Do: 7, A: 0})
	s.owned(0)
	s.owned(2, want...)
}

// TestOwnersOfEpoch has a job hold its step in another epoch.
func TestOwnersOfEpoch(t *testing.T) {
	s := newStage(t, 1, api.Job{Nodes: []int{0}, Steps: []api.Step{{Ranks: 1, Per: 1, Limit: 9}}})
	s.Net().Send([]string{wire.Encode(api.Msg{Kind: api.MsgReady, To: -1, Job: 1, Arg: 1})})
	s.does(world.Op{Do: 3})
	s.rounds(3)
	s.owned(0, audit.Owner{Pid: 1, Job: 1, Epoch: 1})
	s.is(audit.Counts{Held: 1}, false, api.OK)
}

// TestCourse has a job go from its beginning to its end.
func TestCourse(t *testing.T) {
	s := newStage(t, 3, two())
	s.is(audit.Counts{}, false, api.OK)
	s.rounds(1)
	s.is(audit.Counts{}, false, api.OK)
	s.does(world.Op{Do: 2}, world.Op{Do: 3})
	s.is(audit.Counts{Held: 2}, false, api.OK)
	s.rounds(1)
	s.is(audit.Counts{Held: 4}, false, api.OK)
	s.does(world.Op{Do: 2}, world.Op{Do: 3})
	s.is(audit.Counts{Held: 2, Running: 2}, false, api.OK)
	s.does(world.Op{Do: 7, C: 3})
	s.is(audit.Counts{Held: 2, Running: 1, Exited: 1}, false, api.OK)
	s.does(world.Op{Do: 9, A: 2}, world.Op{Do: 9, A: 1})
	s.is(audit.Counts{Held: 2, Running: 1, Exited: 1, Down: 2}, false, api.OK)
	s.does(world.Op{Do: 10, A: 2}, world.Op{Do: 10, A: 1})
	s.rounds(1)
	s.is(audit.Counts{Running: 3, Exited: 1}, false, api.OK)
	// Both of node 0 have exited, but the record of that is torn.
	s.does(world.Op{Do: 8, C: 4})
	s.is(audit.Counts{Running: 2, Exited: 2, Down: 1}, false, api.OK)
	s.does(world.Op{Do: 7, A: 2}, world.Op{Do: 7, A: 2})
	s.is(audit.Counts{Exited: 2, Down: 1}, false, api.OK)
	s.does(world.Op{Do: 10, A: 0})
	s.is(audit.Counts{}, false, api.OK)
	s.rounds(1)
	if j, _ := s.Ctl().Job(1); j.Phase != ctl.Finishes {
		t.Errorf("the job is in phase %d", j.Phase)
	}
	s.is(audit.Counts{}, false, api.OK)
	s.does(world.Op{Do: 2})
	for j, _ := s.Ctl().Job(1); j.Phase != ctl.Over; j, _ = s.Ctl().Job(1) {
		s.is(audit.Counts{}, false, api.OK)
		s.does(world.Op{Do: 3})
	}
	s.is(audit.Counts{}, true, api.OK)
	// What is on its way does not count.
	s.Net().Send([]string{"a"})
	s.is(audit.Counts{}, true, api.OK)
}

// TestIdleOfNodeDown has a node down, where all else is over.
func TestIdleOfNodeDown(t *testing.T) {
	for node := range 3 {
		s := newStage(t, 3)
		s.does(world.Op{Do: 9, A: node})
		s.is(audit.Counts{Down: 1}, false, api.OK)
		s.does(world.Op{Do: 10, A: node})
		s.is(audit.Counts{}, true, api.OK)
	}
}

// TestIdleOfJobs has one of several jobs not over.
func TestIdleOfJobs(t *testing.T) {
	for late := range 3 {
		s := newStage(t, 1)
		job := api.Job{Nodes: []int{0}, Steps: []api.Step{{Ranks: 1, Per: 1, Limit: 9}}}
		for range 3 {
			s.does(world.Op{J: job})
		}
		for id := 1; id <= 3; id++ {
			if id != late+1 {
				s.does(world.Op{Do: 11, A: id})
			}
		}
		s.rounds(3)
		s.does(world.Op{Do: 7})
		s.is(audit.Counts{}, false, api.OK)
		for id := 1; id <= 3; id++ {
			if j, _ := s.Ctl().Job(id); (j.Phase == ctl.Over) == (id == late+1) {
				t.Errorf("job %d is in phase %d", id, j.Phase)
			}
		}
		s.rounds(2)
		s.is(audit.Counts{}, true, api.OK)
	}
}

// TestIdleOfTasks has a node hold, and run, a step of which the controller does not know.
func TestIdleOfTasks(t *testing.T) {
	s := newStage(t, 1)
	signed := cred.Sign("k", api.Cred{Job: 1, Until: 9, Nodes: []int{0}, Cores: 1})
	s.says(api.Msg{Kind: api.MsgProlog, Job: 1})
	s.is(audit.Counts{}, true, api.ErrForm)
	s.says(api.Msg{Kind: api.MsgLaunch, Job: 1, Text: agent.Pack(agent.Order{Cred: signed, Ranks: 1, Per: 1, Limit: 5})})
	s.is(audit.Counts{Held: 1}, false, api.ErrForm)
	s.says(api.Msg{Kind: api.MsgRelease, Job: 1})
	s.is(audit.Counts{Running: 1}, false, api.ErrForm)
	s.does(world.Op{Do: 7})
	s.is(audit.Counts{}, true, api.ErrForm)
}

// TestCheckOfWhatWasSeen has a step refused on a node whose prolog was not seen.
func TestCheckOfWhatWasSeen(t *testing.T) {
	s := newStage(t, 1, api.Job{Nodes: []int{0}, Steps: []api.Step{{Ranks: 1, Per: 1, Limit: 9}}})
	s.Node(0).Deliver(wire.Encode(api.Msg{Kind: api.MsgProlog, From: -1, Job: 1}), agent.Choice{Fail: -1, Tear: -1})
	s.is(audit.Counts{}, false, api.OK)
	s.says(api.Msg{Kind: api.MsgAbort, Job: 1})
	s.is(audit.Counts{}, false, api.ErrForm)
	s.does(world.Op{Do: 9})
	s.is(audit.Counts{Down: 1}, false, api.ErrForm)
}
