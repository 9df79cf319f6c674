package dag_test

import (
	"slices"
	"testing"

	"roundhouse/api"
	"roundhouse/dag"
)

type dice uint64

func (d *dice) below(n int) int {
	*d = *d*6364136223846793005 + 1442695040888963407
	return int(uint64(*d) >> 33 % uint64(n))
}

// steps throws 1 to 16 steps, of which about one in so many pairs has an edge; some have cycles.
func (d *dice) steps(rare int) []api.Step {
	l := make([]api.Step, 1+d.below(16))
	rank := make([]int, len(l))
	for i := range rank {
		rank[i] = d.below(1000)
	}
	for i := range l {
		l[i] = step()
		for j := range l {
			forward := rank[j] < rank[i] || d.below(60) == 0
			if j != i && forward && d.below(rare) == 0 {
				l[i].After = append(l[i].After, api.Edge{Step: j, Kind: d.below(3)})
			}
		}
	}
	return l
}

// code throws one of the codes that a step may end by.
func (d *dice) code() int {
	return []int{0, 0, 0, 1, 2, 255}[d.below(6)]
}

// reaches says from which steps one comes to which by edges.
func reaches(l []api.Step) [16][16]bool {
	var r [16][16]bool
	for i, s := range l {
		for _, e := range s.After {
			r[i][e.Step] = true
		}
	}
	for k := range r {
		for i := range r {
			for j := range r {
				r[i][j] = r[i][j] || r[i][k] && r[k][j]
			}
		}
	}
	return r
}

// hasCycle says whether one comes from a step back to it.
func hasCycle(l []api.Step) bool {
	r := reaches(l)
	for i := range r {
		if r[i][i] {
			return true
		}
	}
	return false
}

// edgeHolds goes by the document's words.
func edgeHolds(e api.Edge, codes []int) bool {
	c := codes[e.Step]
	return [3]bool{c == 0, c != -1, c >= 1 && c <= 255}[e.Kind]
}

// settledAgain goes by the document's words: again and again, until none is so.
func settledAgain(l []api.Step, codes []int) []int {
	codes = slices.Clone(codes)
	for changed := true; changed; {
		changed = false
		for i, s := range l {
			for _, e := range s.After {
				if codes[i] == -1 && codes[e.Step] != -1 && !edgeHolds(e, codes) {
					codes[i], changed = 256, true
				}
			}
		}
	}
	return codes
}

// isOrder says whether each place comes behind those that it waits for, and is the least that may come next.
func isOrder(l []api.Step, order []int) bool {
	if len(order) != len(l) {
		return false
	}
	for n, place := range order {
		least := -1
		for i := len(l) - 1; i >= 0; i-- {
			waits := slices.ContainsFunc(l[i].After, func(e api.Edge) bool { return !slices.Contains(order[:n], e.Step) })
			if !waits && !slices.Contains(order[:n], i) {
				least = i
			}
		}
		if place != least {
			return false
		}
	}
	return true
}

func TestRandomSteps(t *testing.T) {
	d, cycles := dice(13), 0
	for range 4000 {
		l := d.steps(2 + d.below(6))
		e, order := dag.Check(l), dag.Order(l)
		if hasCycle(l) {
			cycles++
			if e != api.ErrCycle || len(order) != 0 {
				t.Fatalf("P13.1: %v: Check = %d, Order = %v", l, e, order)
			}
			continue
		}
		if e != api.OK || !isOrder(l, order) {
			t.Fatalf("P13.1: %v: Check = %d, Order = %v", l, e, order)
		}
		codes := make([]int, len(l))
		for i := range codes {
			codes[i] = []int{-1, -1, -1, 0, 1, 255, 256}[d.below(7)]
		}
		compare(t, l, codes)
	}
	if cycles < 100 || cycles > 3000 {
		t.Errorf("P13.1: only a few of the walks are of one kind: %d have cycles", cycles)
	}
}

// compare fails unless Ready, Settle and Over answer what the document's words come to.
func compare(t *testing.T, l []api.Step, codes []int) {
	t.Helper()
	var want []int
	for i, s := range l {
		held := !slices.ContainsFunc(s.After, func(e api.Edge) bool { return !edgeHolds(e, codes) })
		if codes[i] == -1 && held {
			want = append(want, i)
		}
	}
	if ready, e := dag.Ready(l, codes); e != api.OK || !slices.Equal(ready, want) {
		t.Fatalf("P13.2: Ready(%v, %v) = %v, %d, want %v", l, codes, ready, e, want)
	}
	all := settledAgain(l, codes)
	settled, e := dag.Settle(l, codes)
	if e != api.OK || !slices.Equal(settled, all) {
		t.Fatalf("P13.2: Settle(%v, %v) = %v, %d, want %v", l, codes, settled, e, all)
	}
	most := 0
	for _, c := range all {
		if c < 256 {
			most = max(most, c)
		}
	}
	ended := !slices.Contains(all, -1)
	if !ended {
		most = 0
	}
	if code, over := dag.Over(l, codes); over != ended || code != most {
		t.Fatalf("P13.3: Over(%v, %v) = %d, %v, want %d, %v", l, codes, code, over, most, ended)
	}
}

// TestGoesOn ends steps that are ready, in any order, till all is over.
func TestGoesOn(t *testing.T) {
	d := dice(77)
	for range 1000 {
		l := d.steps(3)
		if dag.Check(l) != api.OK {
			continue
		}
		codes := same(len(l), dag.Open)
		for ended := 0; ; ended++ {
			codes, _ = dag.Settle(l, codes)
			ready, _ := dag.Ready(l, codes)
			_, over := dag.Over(l, codes)
			if over != (len(ready) == 0) || ended > len(l) {
				t.Fatalf("P13.4: %v, %v: over is %v, ready are %v", l, codes, over, ready)
			}
			if over {
				break
			}
			codes[ready[d.below(len(ready))]] = d.code()
		}
	}
}
