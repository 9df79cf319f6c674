package world_test

import (
	"fmt"
	"slices"
	"testing"

	"roundhouse/api"
	"roundhouse/cores"
	"roundhouse/rec"
	"roundhouse/world"
)

type dice uint64

func (d *dice) below(n int) int {
	*d = *d*6364136223846793005 + 1442695040888963407
	return int(uint64(*d) >> 33 % uint64(n))
}

// seldom is what, once in so many times, and else other.
func (d *dice) seldom(n, what, other int) int {
	if d.below(n) == 0 {
		return what
	}
	return other
}

// config throws a cluster's.
func (d *dice) config() world.Config {
	c := world.Config{Key: string(rune('a' + d.below(9))), Grace: 1 + d.below(3), Kill: d.below(3)}
	for range 1 + d.below(4) {
		c.Layouts = append(c.Layouts, cores.Layout{Sockets: 1 + d.below(3), Per: 2 + d.below(6)})
	}
	return c
}

// job throws one of few nodes and steps.
func (d *dice) job(nodes int) api.Job {
	var j api.Job
	for n := range nodes + d.seldom(9, 1, 0) {
		if d.below(3) > 0 {
			j.Nodes = append(j.Nodes, n)
		}
	}
	for i := range 1 + d.below(4) {
		s := api.Step{Ranks: 1 + d.below(3), Per: 1 + d.below(2), Dist: d.below(2), Limit: 1 + d.below(20)}
		for k := range i {
			if d.below(3) == 0 {
				s.After = append(s.After, api.Edge{Step: k, Kind: d.below(3)})
			}
		}
		j.Steps = append(j.Steps, s)
	}
	return j
}

// op throws what a script chooses: messages come mostly, and mostly in order.
func (d *dice) op(nodes int) world.Op {
	any := func() int { return d.below(1000) - 500 }
	switch n := d.below(200); {
	case n < 3:
		return world.Op{Do: submit, J: d.job(nodes)}
	case n < 18:
		return world.Op{Do: tick}
	case n < 40:
		return world.Op{Do: send}
	case n < 140:
		return world.Op{Do: deliver, A: d.seldom(3, any(), 0), B: d.seldom(60, any(), 0), C: d.seldom(30, d.below(5)-1, 0)}
	case n < 145:
		return world.Op{Do: tear, A: any(), B: d.below(40) - 2}
	case n < 151:
		return world.Op{Do: drop, A: any()}
	case n < 154:
		return world.Op{Do: twice, A: any()}
	case n < 174:
		return world.Op{Do: exit, A: any(), B: any(), C: d.seldom(3, any(), 0)}
	case n < 180:
		return world.Op{Do: cut, A: any(), B: any(), C: d.below(30) - 2}
	case n < 183:
		return world.Op{Do: crash, A: any()}
	case n < 198:
		return world.Op{Do: bringUp, A: any()}
	case n < 199:
		return world.Op{Do: cancel, A: d.below(6)}
	}
	return world.Op{Do: any(), A: any()}
}

// same fails unless the world and its twin tell the same of all.
func same(t *testing.T, w *world.World, m *twin, what string) {
	t.Helper()
	for _, c := range []struct {
		name      string
		got, want any
	}{
		{"P20.1: Given", w.Given(), m.given}, {"P20.2: Now", w.Now(), m.now}, {"P20.3: Events", w.Events(), m.events},
		{"P20.2: on their way", w.Net().List(), m.net.List()}, {"P20.2: Lost", w.Net().Lost(), m.net.Lost()},
		{"P20.2: Outbox", w.Ctl().Outbox(w.Now()), m.ctl.Outbox(m.now)},
	} {
		if fmt.Sprintf("%v", c.got) != fmt.Sprintf("%v", c.want) {
			t.Fatalf("%s behind %s: %v, want %v", c.name, what, c.got, c.want)
		}
	}
	for i, a := range m.nodes {
		got := w.Node(i)
		if got.Log() != a.Log() || got.Now() != a.Now() || got.Down() != a.Down() || fmt.Sprint(got.Tasks()) != fmt.Sprint(a.Tasks()) || got.Free() != a.Free() {
			t.Fatalf("P20.2: node %d behind %s: %v, want %v", i, what, got.Tasks(), a.Tasks())
		}
	}
}

func TestWalk(t *testing.T) {
	done, kinds := map[int]int{}, map[int]int{}
	for seed := range 60 {
		d := dice(seed)
		c := d.config()
		w, e := world.New(c)
		if e != api.OK {
			t.Fatalf("P20.1: New(%v) = %d", c, e)
		}
		m := newTwin(c)
		for range 400 {
			o := d.op(len(c.Layouts))
			got, want := w.Do(o), m.do(o)
			if got != want {
				t.Fatalf("P20.2: Do(%v) of %d = %v", o, seed, got)
			}
			if got {
				done[o.Do]++
			}
			same(t, w, m, fmt.Sprint(o))
		}
		inGangs(t, w.Given(), w.Events())
		for _, x := range w.Events() {
			kinds[x.Kind]++
		}
	}
	for do := range 12 {
		if done[do] < 10 {
			t.Errorf("the walks do %d times what %d chooses", done[do], do)
		}
	}
	for _, kind := range []int{0, 1, 2, 3, 4, 5, 6, 7, world.Goes, world.Code} {
		if kinds[kind] < 10 {
			t.Errorf("the walks come to %d events of kind %d", kinds[kind], kind)
		}
	}
}

// inGangs fails unless steps are released where all nodes hold them, in that epoch, and what was aborted nowhere.
func inGangs(t *testing.T, jobs []api.Job, l []world.Event) {
	t.Helper()
	seen := map[world.Event]bool{}
	for _, x := range l {
		was := func(kind, node int) bool {
			return seen[world.Event{Kind: kind, Node: node, Job: x.Job, Epoch: x.Epoch, Step: x.Step}]
		}
		nodes := jobs[x.Job-1].Nodes
		switch {
		case x.Kind == world.Goes && slices.ContainsFunc(nodes, func(n int) bool { return !was(rec.Held, n) }):
			t.Fatalf("P1: %v, but it is not held by all of %v", x, nodes)
		case x.Kind == rec.Released && (!was(world.Goes, -1) || was(rec.Aborted, x.Node)):
			t.Fatalf("P1: %v, but it does not go, or was aborted", x)
		case x.Kind == rec.Aborted && was(world.Goes, -1):
			t.Fatalf("P1: %v, but it goes", x)
		case x.Kind == rec.Held && was(rec.Held, x.Node):
			t.Fatalf("P4: %v, once more", x)
		}
		x.Arg = 0
		seen[x] = true
	}
}

// TestSameScript has the same script done by worlds one behind the other, and in turns.
func TestSameScript(t *testing.T) {
	for seed := range 20 {
		d := dice(1000 + seed)
		c := d.config()
		var script []world.Op
		for range 300 {
			script = append(script, d.op(len(c.Layouts)))
		}
		first, _ := world.New(c)
		for _, o := range script {
			first.Do(o)
		}
		second, _ := world.New(c)
		third, _ := world.New(c)
		for _, o := range script {
			// Who looks at a world does not change it.
			if second.Do(o) != third.Do(o) || all(second) != all(third) {
				t.Fatalf("P20.4: Do(%v) of %d is answered otherwise", o, seed)
			}
		}
		if all(second) != all(first) {
			t.Errorf("P20.4: the script of %d comes to\n%s\nand to\n%s", seed, all(first), all(second))
		}
	}
}
