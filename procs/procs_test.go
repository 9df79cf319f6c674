package procs_test

import (
	"math"
	"slices"
	"testing"

	"roundhouse/api"
	"roundhouse/procs"
)

const (
	term = 15
	kill = 9
)

// on is a task on these cores.
func on(cores ...int) api.Task {
	return api.Task{Cores: cores}
}

// same says whether two tasks are alike.
func same(a, b api.Task) bool {
	return a.Pid == b.Pid && a.Job == b.Job && a.Epoch == b.Epoch && a.Step == b.Step && a.Rank == b.Rank &&
		slices.Equal(a.Cores, b.Cores) && a.State == b.State && a.Code == b.Code
}

// spawns checks what Spawn answers.
func spawns(t *testing.T, p *procs.Table, x api.Task, want int, wantErr api.Errno) {
	t.Helper()
	if pid, e := p.Spawn(x); pid != want || e != wantErr {
		t.Errorf("P12.1: Spawn(%v): %d, %d, not %d, %d", x, pid, e, want, wantErr)
	}
}

// answers checks an error.
func answers(t *testing.T, what string, e, want api.Errno) {
	t.Helper()
	if e != want {
		t.Errorf("%s: %d, not %d", what, e, want)
	}
}

// reaps checks what Reap answers.
func reaps(t *testing.T, p *procs.Table, pid int, want api.Task, wantErr api.Errno) {
	t.Helper()
	if x, e := p.Reap(pid); !same(x, want) || e != wantErr {
		t.Errorf("P12.3: Reap(%d): %v, %d, not %v, %d", pid, x, e, want, wantErr)
	}
}

// lists checks what List answers.
func lists(t *testing.T, p *procs.Table, want ...api.Task) {
	t.Helper()
	if l := p.List(); !slices.EqualFunc(l, want, same) {
		t.Errorf("P12.1: List: %v, not %v", l, want)
	}
}

// isSignalled checks what Signalled answers.
func isSignalled(t *testing.T, p *procs.Table, pid, want int) {
	t.Helper()
	if sig := p.Signalled(pid); sig != want {
		t.Errorf("P12.2: Signalled(%d): %d, not %d", pid, sig, want)
	}
}

// three is a table of a held task, a running one, and one that has exited with 3.
func three(t *testing.T) *procs.Table {
	t.Helper()
	p := procs.New()
	for pid := range 3 {
		spawns(t, p, on(pid), pid+1, api.OK)
	}
	answers(t, "P12.2: Release(2)", p.Release(2), api.OK)
	answers(t, "P12.2: Release(3)", p.Release(3), api.OK)
	answers(t, "P12.3: Exit(3, 3)", p.Exit(3, 3), api.OK)
	return p
}

// listsThree checks that a table is as three made it.
func listsThree(t *testing.T, p *procs.Table) {
	t.Helper()
	lists(t, p, api.Task{Pid: 1, Cores: []int{0}}, api.Task{Pid: 2, Cores: []int{1}, State: api.Running},
		api.Task{Pid: 3, Cores: []int{2}, State: api.Exited, Code: 3})
	for pid := range 5 {
		isSignalled(t, p, pid, 0)
	}
}

// noPids are numbers that are no Pid of a table of three.
func noPids() []int {
	return []int{math.MinInt, -1, 0, 4, 5, 1 << 32, 1<<32 + 1, math.MaxInt}
}

func TestNew(t *testing.T) {
	p := procs.New()
	if p == nil {
		t.Fatal("P12.1: New is nil")
	}
	lists(t, p)
	isSignalled(t, p, 1, 0)
	reaps(t, p, 1, api.Task{}, api.ErrArg)
	spawns(t, p, on(4), 1, api.OK)
	lists(t, procs.New())
}

func TestNil(t *testing.T) {
	var p *procs.Table
	spawns(t, p, on(4), 0, api.ErrArg)
	spawns(t, p, on(), 0, api.ErrArg)
	answers(t, "P12.4: Release of nil", p.Release(1), api.ErrArg)
	answers(t, "P12.4: Signal of nil", p.Signal(1, kill), api.ErrArg)
	answers(t, "P12.4: Exit of nil", p.Exit(1, 0), api.ErrArg)
	reaps(t, p, 1, api.Task{}, api.ErrArg)
	lists(t, p)
	isSignalled(t, p, 1, 0)
	if p.Copy() != nil {
		t.Error("P12.4: a copy of nil is not nil")
	}
}

// A table that New did not make is one without tasks.
func TestZeroTable(t *testing.T) {
	p := &procs.Table{}
	lists(t, p)
	isSignalled(t, p, 1, 0)
	answers(t, "R1: Release", p.Release(1), api.ErrArg)
	answers(t, "R1: Signal", p.Signal(1, kill), api.ErrArg)
	answers(t, "R1: Exit", p.Exit(1, 0), api.ErrArg)
	reaps(t, p, 1, api.Task{}, api.ErrArg)
	c := p.Copy()
	spawns(t, p, on(4), 1, api.OK)
	lists(t, c)
	spawns(t, c, on(5), 1, api.OK)
	lists(t, p, api.Task{Pid: 1, Cores: []int{4}})
}

func TestSpawn(t *testing.T) {
	p := procs.New()
	spawns(t, p, api.Task{Job: 1, Epoch: 2, Step: 3, Rank: 4, Cores: []int{5, 6}}, 1, api.OK)
	// What the task is to be does not hang on the Pid, State and Code that are handed in.
	spawns(t, p, api.Task{Pid: 77, Job: 9, Cores: []int{0, 255}, State: api.Exited, Code: 8}, 2, api.OK)
	spawns(t, p, api.Task{Pid: -1, Cores: []int{7}, State: -5, Code: -5}, 3, api.OK)
	spawns(t, p, api.Task{Job: api.MaxNum, Epoch: api.MaxNum, Step: api.MaxNum, Rank: api.MaxNum, Cores: []int{5}}, 4, api.OK)
	lists(t, p,
		api.Task{Pid: 1, Job: 1, Epoch: 2, Step: 3, Rank: 4, Cores: []int{5, 6}},
		api.Task{Pid: 2, Job: 9, Cores: []int{0, 255}},
		api.Task{Pid: 3, Cores: []int{7}},
		api.Task{Pid: 4, Job: api.MaxNum, Epoch: api.MaxNum, Step: api.MaxNum, Rank: api.MaxNum, Cores: []int{5}})
}

// Cores may stand in any order, and stay in it; all 256 may be there.
func TestSpawnCores(t *testing.T) {
	p := procs.New()
	var all []int
	for c := range 256 {
		all = append(all, 255-c)
	}
	spawns(t, p, on(9, 2, 5), 1, api.OK)
	spawns(t, p, on(all...), 2, api.OK)
	lists(t, p, api.Task{Pid: 1, Cores: []int{9, 2, 5}}, api.Task{Pid: 2, Cores: all})
}

func wrongTasks() []api.Task {
	l := []api.Task{{}, {Cores: []int{}}, on(256), on(-1), on(1, 1), on(3, 2, 3), on(0, math.MaxInt), on(math.MinInt), on(make([]int, 257)...)}
	for _, n := range []int{math.MinInt, -1, api.MaxNum + 1, 1 << 62, math.MaxInt} {
		l = append(l, api.Task{Job: n, Cores: []int{1}}, api.Task{Epoch: n, Cores: []int{1}}, api.Task{Step: n, Cores: []int{1}}, api.Task{Rank: n, Cores: []int{1}})
	}
	return l
}

func TestSpawnWrong(t *testing.T) {
	p := procs.New()
	for _, x := range wrongTasks() {
		spawns(t, p, x, 0, api.ErrArg)
	}
	lists(t, p)
	// What was refused was not spawned: it counts for no Pid.
	spawns(t, p, on(1), 1, api.OK)
	for _, x := range wrongTasks() {
		spawns(t, p, x, 0, api.ErrArg)
	}
	lists(t, p, api.Task{Pid: 1, Cores: []int{1}})
	spawns(t, p, on(1), 2, api.OK)
}

// Who has exited is there till it is reaped; Pids go on where they were.
func TestFull(t *testing.T) {
	p := procs.New()
	for i := range 256 {
		spawns(t, p, on(i), i+1, api.OK)
	}
	spawns(t, p, on(1), 0, api.ErrFull)
	for _, x := range wrongTasks() {
		spawns(t, p, x, 0, api.ErrArg)
	}
	answers(t, "P12.2: Signal(40, 9)", p.Signal(40, kill), api.OK)
	spawns(t, p, on(1), 0, api.ErrFull)
	reaps(t, p, 40, api.Task{Pid: 40, Cores: []int{39}, State: api.Exited, Code: 137}, api.OK)
	spawns(t, p, on(1), 257, api.OK)
	spawns(t, p, on(1), 0, api.ErrFull)
	l := p.List()
	if len(l) != 256 || l[38].Pid != 39 || l[39].Pid != 41 || l[255].Pid != 257 {
		t.Errorf("P12.1: %d tasks", len(l))
	}
}

func TestRelease(t *testing.T) {
	p := three(t)
	for _, pid := range noPids() {
		answers(t, "P12.2: Release of nobody", p.Release(pid), api.ErrArg)
	}
	answers(t, "P12.2: Release of who runs", p.Release(2), api.ErrState)
	answers(t, "P12.2: Release of who has exited", p.Release(3), api.ErrState)
	listsThree(t, p)
	answers(t, "P12.2: Release(1)", p.Release(1), api.OK)
	answers(t, "P12.2: Release(1) again", p.Release(1), api.ErrState)
	if x := p.List()[0]; !same(x, api.Task{Pid: 1, Cores: []int{0}, State: api.Running}) {
		t.Errorf("P12.2: %v", x)
	}
}

func TestSignalWrong(t *testing.T) {
	p := three(t)
	for _, pid := range noPids() {
		answers(t, "P12.2: Signal of nobody", p.Signal(pid, kill), api.ErrArg)
		answers(t, "P12.2: Signal of nobody", p.Signal(pid, term), api.ErrArg)
	}
	for pid := range 5 {
		for _, sig := range []int{math.MinInt, -9, -1, 0, 1, 8, 10, 14, 16, 137, 1<<32 + 9, math.MaxInt} {
			answers(t, "P12.2: Signal by no signal", p.Signal(pid, sig), api.ErrArg)
		}
	}
	answers(t, "P12.2: Signal of who has exited", p.Signal(3, kill), api.ErrState)
	answers(t, "P12.2: Signal of who has exited", p.Signal(3, term), api.ErrState)
	listsThree(t, p)
}

// The greater signal stays: none, 15, 9.
func TestSignalOrder(t *testing.T) {
	for _, c := range []struct{ sigs, want []int }{
		{[]int{term, term, kill, term, kill}, []int{term, term, kill, kill, kill}},
		{[]int{kill, kill, term}, []int{kill, kill, kill}},
	} {
		p := three(t)
		for i, sig := range c.sigs {
			answers(t, "P12.2: Signal(2)", p.Signal(2, sig), api.OK)
			isSignalled(t, p, 2, c.want[i])
		}
		isSignalled(t, p, 1, 0)
		// Who runs exits when it wants to, however it was signalled.
		if x := p.List()[1]; x.State != api.Running || x.Code != 0 {
			t.Errorf("P12.2: %v", x)
		}
		answers(t, "P12.3: Exit(2, 0)", p.Exit(2, 0), api.OK)
		isSignalled(t, p, 2, kill)
		reaps(t, p, 2, api.Task{Pid: 2, Cores: []int{1}, State: api.Exited}, api.OK)
		isSignalled(t, p, 2, 0)
	}
}

// A held task exits by 9 at once, and not by 15.
func TestSignalHeld(t *testing.T) {
	p := three(t)
	answers(t, "P12.2: Signal(1, 15)", p.Signal(1, term), api.OK)
	isSignalled(t, p, 1, term)
	if x := p.List()[0]; x.State != api.Held || x.Code != 0 {
		t.Errorf("P12.2: %v", x)
	}
	c := p.Copy()
	answers(t, "P12.2: Signal(1, 9)", p.Signal(1, kill), api.OK)
	isSignalled(t, p, 1, kill)
	answers(t, "P12.2: Signal(1, 15)", p.Signal(1, term), api.ErrState)
	answers(t, "P12.2: Release(1)", p.Release(1), api.ErrState)
	answers(t, "P12.3: Exit(1, 0)", p.Exit(1, 0), api.ErrState)
	isSignalled(t, p, 1, kill)
	reaps(t, p, 1, api.Task{Pid: 1, Cores: []int{0}, State: api.Exited, Code: 137}, api.OK)
	// Signalled by 15 while it was held, it may be released yet, and stays signalled.
	answers(t, "P12.2: Release(1)", c.Release(1), api.OK)
	isSignalled(t, c, 1, term)
	answers(t, "P12.2: Signal(1, 9)", c.Signal(1, kill), api.OK)
	if x := c.List()[0]; x.State != api.Running {
		t.Errorf("P12.2: %v", x)
	}
}
