package trace_test

import (
	"slices"
	"testing"

	"roundhouse/agent"
	"roundhouse/api"
	"roundhouse/cores"
	"roundhouse/ctl"
	"roundhouse/rec"
	"roundhouse/trace"
	"roundhouse/world"
)

// agentChoice is that nothing fails.
var agentChoice = agent.Choice{Fail: -1, Tear: -1}

// seldom is what, once in so many times, and else other.
func (d *dice) seldom(n, what, other int) int {
	if d.below(n) == 0 {
		return what
	}
	return other
}

// config throws a cluster's.
func (d *dice) config() world.Config {
	c := world.Config{Key: "k", Grace: 1 + d.below(3), Kill: d.below(3)}
	for range 1 + d.below(4) {
		c.Layouts = append(c.Layouts, cores.Layout{Sockets: 1 + d.below(3), Per: 2 + d.below(6)})
	}
	return c
}

// job throws one of few nodes and steps.
func (d *dice) job(nodes int) api.Job {
	var j api.Job
	for n := range nodes {
		if d.below(3) > 0 {
			j.Nodes = append(j.Nodes, n)
		}
	}
	for i := range 1 + d.below(4) {
		s := api.Step{Ranks: 1 + d.below(3), Per: 1 + d.below(2), Dist: d.below(2), Limit: 1 + d.below(20)}
		for k := range i {
			if d.below(3) == 0 {
				s.After = append(s.After, api.Edge{Step: k, Kind: d.below(3)})
			}
		}
		j.Steps = append(j.Steps, s)
	}
	return j
}

// op throws what a script chooses: messages come mostly, and mostly in order.
func (d *dice) op(nodes int) world.Op {
	any := func() int { return d.below(1000) - 500 }
	switch n := d.below(200); {
	case n < 3:
		return world.Op{Do: 0, J: d.job(nodes)}
	case n < 18:
		return world.Op{Do: 1}
	case n < 40:
		return world.Op{Do: 2}
	case n < 140:
		return world.Op{Do: 3, A: d.seldom(3, any(), 0), B: d.seldom(60, any(), 0), C: d.seldom(30, d.below(5)-1, 0)}
	case n < 145:
		return world.Op{Do: 4, A: any(), B: d.below(40) - 2}
	case n < 151:
		return world.Op{Do: 5, A: any()}
	case n < 154:
		return world.Op{Do: 6, A: any()}
	case n < 174:
		return world.Op{Do: 7, A: any(), B: any(), C: d.seldom(3, any(), 0)}
	case n < 180:
		return world.Op{Do: 8, A: any(), B: any(), C: d.below(30) - 2}
	case n < 183:
		return world.Op{Do: 9, A: any()}
	case n < 199:
		return world.Op{Do: 10, A: any()}
	}
	return world.Op{Do: 11, A: d.below(6)}
}

// TestWalk has worlds go by scripts of whatever is chosen: what is seen may be.
func TestWalk(t *testing.T) {
	kinds := map[int]int{}
	for seed := range 150 {
		d := dice(seed)
		c := d.config()
		w, _ := world.New(c)
		for range 8 {
			for range 60 {
				w.Do(d.op(len(c.Layouts)))
			}
			l := w.Events()
			if n, e := trace.Check(w.Given(), l); n != len(l) || e != api.OK || trace.World(w) != api.OK {
				t.Fatalf("P21.4: of %d: %d, %d, of %v", seed, n, e, l)
			}
			asToldByNodes(t, w)
		}
		for _, e := range w.Events() {
			kinds[e.Kind]++
		}
		spoil(t, &d, w.Given(), w.Events())
	}
	for _, kind := range []int{0, 1, 2, 3, 4, 5, 6, 7, world.Goes, world.Code} {
		if kinds[kind] < 50 {
			t.Errorf("the walks come to %d events of kind %d", kinds[kind], kind)
		}
	}
}

// asToldByNodes fails unless Owned and Ended tell of a world what its nodes and its controller know.
func asToldByNodes(t *testing.T, w *world.World) {
	t.Helper()
	l, jobs := w.Events(), w.Given()
	for i := range w.Nodes() {
		a, have := w.Node(i), 0
		for _, x := range a.State().Steps {
			if x.Phase == rec.StepHeld || x.Phase == rec.StepRuns {
				have += jobs[x.Job-1].Steps[x.Step].Ranks * jobs[x.Job-1].Steps[x.Step].Per
			}
		}
		if n := trace.Owned(jobs, l, i); !a.Down() && n != have {
			t.Fatalf("P21.3: Owned(%v, %d) = %d, want %d", l, i, n, have)
		}
	}
	for id := range jobs {
		if j, _ := w.Ctl().Job(id + 1); j.Phase == ctl.Over && !trace.Ended(jobs, l, j.Id, j.Epoch) {
			t.Fatalf("P21.3: job %v is over, and not ended in %v", j, l)
		}
	}
}

// spoil holds what was seen, with a fault in it, against the model.
func spoil(t *testing.T, d *dice, jobs []api.Job, l []world.Event) {
	t.Helper()
	if len(l) < 2 {
		return
	}
	for range 5 {
		bad := slices.Clone(l)
		i, k := d.below(len(l)), d.below(len(l))
		switch d.below(4) {
		case 0:
			bad[i], bad[k] = bad[k], bad[i]
		case 1:
			bad = slices.Delete(bad, i, i+1)
		case 2:
			bad = slices.Insert(bad, i, bad[k])
		case 3:
			bad[i].Arg += d.oneOf(-1, 1)
		}
		asModel(t, jobs, bad)
	}
}
