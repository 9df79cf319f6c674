package audit

import (
	"slices"
	"testing"

	"roundhouse/api"
	"roundhouse/journal"
	"roundhouse/mask"
	"roundhouse/rec"
)

// No script comes to a node that is not sound: what is seen of one is made up here.

// task is one of step 0 of job 1.
func task(pid int, cores ...int) api.Task {
	return api.Task{Pid: pid, Job: 1, Rank: pid - 1, Cores: cores}
}

// maskOf is the mask of cores.
func maskOf(l ...int) mask.Mask {
	m, _ := mask.Of(l)
	return m
}

// logOf is the log of records.
func logOf(l ...api.Rec) string {
	log := ""
	for _, r := range l {
		log, _ = journal.Append(log, 0, rec.Encode(r))
	}
	return log
}

// wrote are the records of a node on which step 0 of job 1 runs, and step 1 is held; two others are over.
func wrote() []api.Rec {
	return []api.Rec{
		{Kind: rec.Prolog, Job: 1},
		{Kind: rec.Held, Job: 1, List: []int{1, 4}},
		{Kind: rec.Held, Job: 1, Step: 1, List: []int{3}},
		{Kind: rec.Held, Job: 1, Step: 2, List: []int{2}},
		{Kind: rec.Aborted, Job: 1, Step: 2},
		{Kind: rec.Held, Job: 1, Step: 3, List: []int{5, 6}},
		{Kind: rec.Released, Job: 1},
		{Kind: rec.Released, Job: 1, Step: 3},
		{Kind: rec.Ended, Job: 1, Step: 3, Arg: 4},
		{Kind: rec.Prolog, Job: 2, Arg: 9},
	}
}

// sound is what is seen of that node, which has cores 0 to 7.
func sound() sight {
	state, _ := rec.Fold(wrote())
	return sight{
		up: true, tasks: []api.Task{task(1, 0, 1), task(3, 4), task(4, 2, 6)}, free: maskOf(3, 5, 7), state: state, log: logOf(wrote()...),
	}
}

// faults are what is not sound, by its error, and what makes it so.
func faults() map[api.Errno][]func(s *sight) {
	return map[api.Errno][]func(s *sight){
		api.ErrCores: {
			func(s *sight) { s.tasks[1].Cores = []int{0} },
			func(s *sight) { s.tasks[2].Cores = []int{7, 4} },
			func(s *sight) { s.tasks[2].Cores = []int{7, 1}; s.tasks[0].Cores = []int{1, 2} },
			func(s *sight) { s.tasks[0].Cores = []int{0, 0} },
		},
		api.ErrState: {
			func(s *sight) { s.state = rec.State{} },
			func(s *sight) { s.state.Drained = false },
			func(s *sight) { s.state.Jobs = s.state.Jobs[:1] },
			func(s *sight) { s.state.Jobs = append(s.state.Jobs, rec.Job{Job: 5}) },
			func(s *sight) { s.state.Jobs[0], s.state.Jobs[1] = s.state.Jobs[1], s.state.Jobs[0] },
			func(s *sight) { s.state.Jobs[0].Job = 3 },
			func(s *sight) { s.state.Jobs[0].Epoch = 1 },
			func(s *sight) { s.state.Jobs[0].Phase = rec.JobGone },
			func(s *sight) { s.state.Steps = s.state.Steps[:3] },
			func(s *sight) { s.state.Steps = append(s.state.Steps, rec.Step{Job: 5, Phase: rec.StepAborted}) },
			func(s *sight) { s.state.Steps[0], s.state.Steps[1] = s.state.Steps[1], s.state.Steps[0] },
			func(s *sight) { s.state.Steps[1].Job = 2 },
			func(s *sight) { s.state.Steps[1].Epoch = 1 },
			func(s *sight) { s.state.Steps[1].Step = 7 },
			func(s *sight) { s.state.Steps[1].Phase = rec.StepRuns },
			func(s *sight) { s.state.Steps[3].Code = 5 },
			func(s *sight) { s.state.Steps[2].Pids = []int{9} },
			func(s *sight) { s.state.Steps[3].Pids = nil },
			func(s *sight) { s.log = "" },
			func(s *sight) { s.log = journal.Tear(logOf(wrote()[:9]...), 0, rec.Encode(wrote()[9]), 5) },
			func(s *sight) { s.log += logOf(api.Rec{Kind: rec.Aborted, Job: 1, Step: 1}) },
			func(s *sight) { s.log = logOf(wrote()[1:]...) + logOf(wrote()...) },
		},
		api.ErrSpawn: {
			func(s *sight) { s.tasks = nil },
			func(s *sight) { s.tasks = s.tasks[:2] },
			func(s *sight) { s.tasks = s.tasks[1:] },
			func(s *sight) { s.tasks[1].Pid = 2 },
			func(s *sight) { s.tasks = append(s.tasks, task(2, 9)) },
			func(s *sight) { s.tasks = append(s.tasks, task(6, 9)) },
			func(s *sight) { s.tasks = append(s.tasks, task(7, 9)) },
		},
	}
}

// free makes a core free that has an owner.
func free(s *sight) { s.free = maskOf(3, 6) }

func TestCheckOfNode(t *testing.T) {
	if e := sound().check(); e != api.OK {
		t.Fatalf("P22.2: of a sound node: %d", e)
	}
	for want, spoils := range faults() {
		for i, spoil := range spoils {
			s := sound()
			spoil(&s)
			if e := s.check(); e != want {
				t.Errorf("P22.2: fault %d of error %d: %d", i, want, e)
			}
		}
	}
	s := sound()
	if free(&s); s.check() != api.ErrCores {
		t.Errorf("P22.2: a core that is free has an owner: %d", s.check())
	}
}

// TestCheckOfLogBehind has a torn record behind a log, and behind it what is not read.
func TestCheckOfLogBehind(t *testing.T) {
	s := sound()
	s.log = journal.Tear(s.log, 0, rec.Encode(api.Rec{Kind: rec.Aborted, Job: 1, Step: 1}), 7) + logOf(wrote()...)
	if e := s.check(); e != api.OK {
		t.Errorf("P22.2: behind a torn record: %d", e)
	}
}

// TestCheckOfNodeDown has a node down: of what it has in memory nothing is asked.
func TestCheckOfNodeDown(t *testing.T) {
	for of, spoils := range faults() {
		for i, spoil := range spoils {
			s, want := sound(), api.OK
			spoil(&s)
			s.up = false
			if of == api.ErrCores {
				want = of
			}
			if e := s.check(); e != want {
				t.Errorf("P22.2: fault %d of error %d, of a node that is down: %d", i, of, e)
			}
		}
	}
	s := sound()
	s.up = false
	if free(&s); s.check() != api.OK {
		t.Errorf("P22.2: of a node that is down: %d", s.check())
	}
}

// TestFirstFault has several faults of one node: the one that the document names first is told.
func TestFirstFault(t *testing.T) {
	all := faults()
	s := sound()
	all[api.ErrSpawn][3](&s)
	all[api.ErrState][3](&s)
	if e := s.check(); e != api.ErrState {
		t.Errorf("R2: of ErrState and ErrSpawn: %d", e)
	}
	free(&s)
	if e := s.check(); e != api.ErrCores {
		t.Errorf("R2: of all: %d", e)
	}
}

// TestFirstNode has several nodes: what is not sound of the first one is told, and of all ahead of what was seen.
func TestFirstNode(t *testing.T) {
	good, cores, state, spawn := sound(), sound(), sound(), sound()
	free(&cores)
	faults()[api.ErrState][0](&state)
	faults()[api.ErrSpawn][1](&spawn)
	for i, c := range []struct {
		nodes []sight
		seen  api.Errno
		want  api.Errno
	}{
		{nil, api.OK, api.OK}, {nil, api.ErrState, api.ErrForm}, {nil, api.ErrForm, api.ErrForm},
		{[]sight{good, good}, api.OK, api.OK}, {[]sight{good, good}, api.ErrState, api.ErrForm},
		{[]sight{good, cores}, api.OK, api.ErrCores}, {[]sight{good, good, state}, api.ErrState, api.ErrState},
		{[]sight{spawn, cores, state}, api.ErrState, api.ErrSpawn}, {[]sight{state, spawn, cores}, api.OK, api.ErrState},
		{[]sight{good, spawn, state}, api.OK, api.ErrSpawn},
	} {
		if e := verdict(c.nodes, c.seen); e != c.want {
			t.Errorf("P22.2: case %d: %d, want %d", i, e, c.want)
		}
	}
}

// TestOwnersInOrder has tasks that share cores, and whose cores do not rise.
func TestOwnersInOrder(t *testing.T) {
	x := api.Task{Pid: 2, Job: 7, Epoch: 3, Step: 4, Rank: 6, Cores: []int{9, 0, 5}, State: api.Running, Code: 8}
	got := ownersOf([]api.Task{task(3, 5, 1), x, task(1, 9, 5)})
	want := []Owner{
		{0, 2, 7, 3, 4, 6}, {1, 3, 1, 0, 0, 2}, {5, 1, 1, 0, 0, 0}, {5, 2, 7, 3, 4, 6}, {5, 3, 1, 0, 0, 2}, {9, 1, 1, 0, 0, 0}, {9, 2, 7, 3, 4, 6},
	}
	if !slices.Equal(got, want) {
		t.Errorf("P22.1: %v, want %v", got, want)
	}
}
