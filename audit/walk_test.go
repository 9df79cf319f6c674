package audit_test

import (
	"slices"
	"testing"

	"roundhouse/api"
	"roundhouse/audit"
	"roundhouse/cores"
	"roundhouse/ctl"
	"roundhouse/rec"
	"roundhouse/trace"
	"roundhouse/world"
)

type dice uint64

func (d *dice) below(n int) int {
	*d = *d*6364136223846793005 + 1442695040888963407
	return int(uint64(*d) >> 33 % uint64(n))
}

// seldom is what, once in so many times, and else other.
func (d *dice) seldom(n, what, other int) int {
	if d.below(n) == 0 {
		return what
	}
	return other
}

// config throws a cluster's.
func (d *dice) config() world.Config {
	c := world.Config{Key: "k", Grace: 1 + d.below(3), Kill: d.below(3)}
	for range 1 + d.below(4) {
		c.Layouts = append(c.Layouts, cores.Layout{Sockets: 1 + d.below(3), Per: 2 + d.below(6)})
	}
	return c
}

// job throws one of few nodes and steps.
func (d *dice) job(nodes int) api.Job {
	var j api.Job
	for n := range nodes {
		if d.below(3) > 0 {
			j.Nodes = append(j.Nodes, n)
		}
	}
	for i := range 1 + d.below(4) {
		s := api.Step{Ranks: 1 + d.below(3), Per: 1 + d.below(2), Dist: d.below(2), Limit: 1 + d.below(20)}
		for k := range i {
			if d.below(3) == 0 {
				s.After = append(s.After, api.Edge{Step: k, Kind: d.below(3)})
			}
		}
		j.Steps = append(j.Steps, s)
	}
	return j
}

// op throws what a script chooses: messages come mostly, and mostly in order.
func (d *dice) op(nodes int) world.Op {
	any := func() int { return d.below(1000) - 500 }
	switch n := d.below(200); {
	case n < 3:
		return world.Op{Do: 0, J: d.job(nodes)}
	case n < 18:
		return world.Op{Do: 1}
	case n < 40:
		return world.Op{Do: 2}
	case n < 140:
		return world.Op{Do: 3, A: d.seldom(3, any(), 0), B: d.seldom(60, any(), 0), C: d.seldom(30, d.below(5)-1, 0)}
	case n < 145:
		return world.Op{Do: 4, A: any(), B: d.below(40) - 2}
	case n < 151:
		return world.Op{Do: 5, A: any()}
	case n < 154:
		return world.Op{Do: 6, A: any()}
	case n < 174:
		return world.Op{Do: 7, A: any(), B: any(), C: d.seldom(3, any(), 0)}
	case n < 180:
		return world.Op{Do: 8, A: any(), B: any(), C: d.below(30) - 2}
	case n < 183:
		return world.Op{Do: 9, A: any()}
	case n < 199:
		return world.Op{Do: 10, A: any()}
	}
	return world.Op{Do: 11, A: d.below(6)}
}

// calm brings what was left undone to its end: nodes recover, messages come, and tasks exit.
func calm(w *world.World) {
	for range 30 {
		w.Do(world.Op{Do: 1})
		w.Do(world.Op{Do: 2})
		for i := range w.Nodes() {
			w.Do(world.Op{Do: 10, A: i})
			for w.Do(world.Op{Do: 7, A: i}) {
			}
		}
		for w.Do(world.Op{Do: 3}) {
		}
	}
}

// sound fails unless the world is sound, and what is told of it is what its nodes and its controller tell.
func sound(t *testing.T, w *world.World) {
	t.Helper()
	if e := audit.Check(w); e != api.OK {
		t.Fatalf("P22.4: %d, of %v", e, w.Events())
	}
	var want audit.Counts
	for i := range w.Nodes() {
		by := map[int]audit.Owner{}
		for _, x := range w.Node(i).Tasks() {
			for _, c := range x.Cores {
				by[c] = audit.Owner{Core: c, Pid: x.Pid, Job: x.Job, Epoch: x.Epoch, Step: x.Step, Rank: x.Rank}
			}
			*[]*int{&want.Held, &want.Running, &want.Exited}[x.State]++
		}
		var owners []audit.Owner
		for c := range 256 {
			if o, is := by[c]; is {
				owners = append(owners, o)
			}
		}
		if got := audit.Owners(w, i); !slices.Equal(got, owners) {
			t.Fatalf("P22.1: Owners of %d: %v, want %v", i, got, owners)
		}
		if w.Node(i).Down() {
			want.Down++
		} else if n := trace.Owned(w.Given(), w.Events(), i); n != len(owners) {
			t.Fatalf("P21.3: Owned of %d: %d, want %d", i, n, len(owners))
		}
	}
	if got := audit.Count(w); got != want {
		t.Fatalf("P22.1: Count is %v, want %v", got, want)
	}
	idle := want.Held+want.Running+want.Exited+want.Down == 0
	for id := range w.Given() {
		j, _ := w.Ctl().Job(id + 1)
		idle = idle && j.Phase == ctl.Over
	}
	if got := audit.Idle(w); got != idle {
		t.Fatalf("P22.3: Idle is %v", got)
	}
}

// TestWalk has worlds go by scripts of whatever is chosen: they are sound, all the way.
func TestWalk(t *testing.T) {
	kinds, idle := map[int]int{}, 0
	for seed := range 60 {
		d := dice(9000 + seed)
		c := d.config()
		w, _ := world.New(c)
		for range 300 {
			w.Do(d.op(len(c.Layouts)))
			sound(t, w)
		}
		calm(w)
		sound(t, w)
		if audit.Idle(w) {
			idle++
		}
		for _, e := range w.Events() {
			kinds[e.Kind]++
		}
	}
	for kind := rec.Prolog; kind <= rec.Void; kind++ {
		if kinds[kind] < 10 {
			t.Errorf("the walks come to %d events of kind %d", kinds[kind], kind)
		}
	}
	if idle < 30 {
		t.Errorf("%d walks come to an end", idle)
	}
}
