package procs_test

import (
	"math"
	"slices"
	"testing"

	"roundhouse/api"
	"roundhouse/procs"
)

func TestExitWrong(t *testing.T) {
	p := three(t)
	for _, pid := range noPids() {
		answers(t, "P12.3: Exit of nobody", p.Exit(pid, 0), api.ErrArg)
	}
	for pid := range 5 {
		for _, code := range []int{math.MinInt, -1, 256, 1 << 32, math.MaxInt} {
			answers(t, "P12.3: Exit by no code", p.Exit(pid, code), api.ErrArg)
		}
	}
	answers(t, "P12.3: Exit of who is held", p.Exit(1, 0), api.ErrState)
	answers(t, "P12.3: Exit of who has exited", p.Exit(3, 0), api.ErrState)
	listsThree(t, p)
}

func TestExitCodes(t *testing.T) {
	p := procs.New()
	for code := range 256 {
		pid := code + 1
		spawns(t, p, api.Task{Job: 5, Rank: code, Cores: []int{8}}, pid, api.OK)
		answers(t, "P12.2: Release", p.Release(pid), api.OK)
		answers(t, "P12.3: Exit", p.Exit(pid, code), api.OK)
		reaps(t, p, pid, api.Task{Pid: pid, Job: 5, Rank: code, Cores: []int{8}, State: api.Exited, Code: code}, api.OK)
		reaps(t, p, pid, api.Task{}, api.ErrArg)
	}
	lists(t, p)
}

func TestReap(t *testing.T) {
	p := three(t)
	for _, pid := range noPids() {
		reaps(t, p, pid, api.Task{}, api.ErrArg)
	}
	reaps(t, p, 1, api.Task{}, api.ErrState)
	reaps(t, p, 2, api.Task{}, api.ErrState)
	listsThree(t, p)
	reaps(t, p, 3, api.Task{Pid: 3, Cores: []int{2}, State: api.Exited, Code: 3}, api.OK)
	lists(t, p, api.Task{Pid: 1, Cores: []int{0}}, api.Task{Pid: 2, Cores: []int{1}, State: api.Running})
	answers(t, "P12.3: Exit of who is reaped", p.Exit(3, 0), api.ErrArg)
	answers(t, "P12.2: Release of who is reaped", p.Release(3), api.ErrArg)
	answers(t, "P12.2: Signal of who is reaped", p.Signal(3, kill), api.ErrArg)
	// Its Pid is not told again, though it was the last one.
	spawns(t, p, on(2), 4, api.OK)
}

func TestCopy(t *testing.T) {
	p := three(t)
	c := p.Copy()
	listsThree(t, c)
	// What is done to one is not seen in the other.
	answers(t, "P12.2: Signal(2, 15)", c.Signal(2, term), api.OK)
	answers(t, "P12.2: Release(1)", c.Release(1), api.OK)
	answers(t, "P12.3: Exit(1, 7)", c.Exit(1, 7), api.OK)
	reaps(t, c, 3, api.Task{Pid: 3, Cores: []int{2}, State: api.Exited, Code: 3}, api.OK)
	spawns(t, c, on(9), 4, api.OK)
	listsThree(t, p)
	d := c.Copy()
	spawns(t, p, on(8), 4, api.OK)
	answers(t, "P12.2: Signal(1, 9)", p.Signal(1, kill), api.OK)
	lists(t, d, api.Task{Pid: 1, Cores: []int{0}, State: api.Exited, Code: 7}, api.Task{Pid: 2, Cores: []int{1}, State: api.Running}, api.Task{Pid: 4, Cores: []int{9}})
	isSignalled(t, d, 2, term)
	isSignalled(t, d, 1, 0)
	spawns(t, d, on(8), 5, api.OK)
}

// spoil overwrites all that a list of cores may hold.
func spoil(cores []int) {
	for i := range cores[:cap(cores)] {
		cores[:cap(cores)][i] = 77
	}
}

// Nobody's cores are shared: not with what was handed in, nor with what was answered, nor between copies.
func TestCoresAreApart(t *testing.T) {
	p := procs.New()
	cores := []int{4, 2, 1}
	spawns(t, p, api.Task{Cores: cores}, 1, api.OK)
	if !slices.Equal(cores, []int{4, 2, 1}) {
		t.Errorf("R5: %v", cores)
	}
	spoil(cores)
	want := api.Task{Pid: 1, Cores: []int{4, 2, 1}}
	lists(t, p, want)
	spoil(p.List()[0].Cores)
	lists(t, p, want)
	answers(t, "P12.2: Signal(1, 9)", p.Signal(1, kill), api.OK)
	want.State, want.Code = api.Exited, 137
	c := p.Copy()
	l := p.List()
	x, _ := p.Reap(1)
	spoil(x.Cores)
	lists(t, c, want)
	if !same(l[0], want) {
		t.Errorf("R5: %v", l)
	}
	reaps(t, c, 1, want, api.OK)
}

// The document's example.
func TestSpawnReleaseExitReap(t *testing.T) {
	p := procs.New()
	pid, _ := p.Spawn(on(1))
	p.Release(pid)
	p.Exit(pid, 3)
	reaps(t, p, pid, api.Task{Pid: 1, Cores: []int{1}, State: api.Exited, Code: 3}, api.OK)
}
