package dag_test

import (
	"math"
	"slices"
	"testing"

	"roundhouse/api"
	"roundhouse/dag"
)

// step is one that may be, behind those that its edges name.
func step(after ...api.Edge) api.Step {
	return api.Step{Ranks: 1, Per: 1, Limit: 1, After: after}
}

func onOK(place int) api.Edge    { return api.Edge{Step: place, Kind: api.AfterOK} }
func onAny(place int) api.Edge   { return api.Edge{Step: place, Kind: api.AfterAny} }
func onNotOK(place int) api.Edge { return api.Edge{Step: place, Kind: api.AfterNotOK} }

// chain is n steps, each behind the one ahead of it.
func chain(n int, after func(int) api.Edge) []api.Step {
	l := []api.Step{step()}
	for i := range n - 1 {
		l = append(l, step(after(i)))
	}
	return l
}

// same is n codes that are all the same.
func same(n int, code int) []int { return slices.Repeat([]int{code}, n) }

// clone is steps in memory of their own.
func clone(l []api.Step) []api.Step {
	l = slices.Clone(l)
	for i := range l {
		l[i].After = slices.Clone(l[i].After)
	}
	return l
}

// differ says whether steps are other ones.
func differ(a, b []api.Step) bool {
	return !slices.EqualFunc(a, b, func(x, y api.Step) bool {
		return x.Ranks == y.Ranks && x.Per == y.Per && x.Dist == y.Dist && x.Limit == y.Limit && slices.Equal(x.After, y.After)
	})
}

// refused fails unless every call answers the error, and nothing.
func refused(t *testing.T, l []api.Step, codes []int, want api.Errno) {
	t.Helper()
	if ready, e := dag.Ready(l, codes); e != want || len(ready) != 0 {
		t.Errorf("P13.2: Ready(%v, %v) = %v, %d, want %d", l, codes, ready, e, want)
	}
	if settled, e := dag.Settle(l, codes); e != want || len(settled) != 0 {
		t.Errorf("P13.2: Settle(%v, %v) = %v, %d, want %d", l, codes, settled, e, want)
	}
	if code, over := dag.Over(l, codes); code != 0 || over {
		t.Errorf("P13.3: Over(%v, %v) = %d, %v", l, codes, code, over)
	}
}

func TestConstants(t *testing.T) {
	if dag.Open != -1 || dag.Skipped != 256 {
		t.Errorf("P13.1: %d, %d", dag.Open, dag.Skipped)
	}
}

func TestCheckSizes(t *testing.T) {
	for _, field := range []struct {
		name        string
		set         func(s *api.Step, n int)
		least, most int
	}{
		{"Ranks", func(s *api.Step, n int) { s.Ranks = n }, 1, 32},
		{"Per", func(s *api.Step, n int) { s.Per = n }, 1, 256},
		{"Dist", func(s *api.Step, n int) { s.Dist = n }, 0, 1},
		{"Limit", func(s *api.Step, n int) { s.Limit = n }, 1, 1 << 30},
	} {
		for _, n := range []int{math.MinInt, -1, 0, 1, 2, field.least - 1, field.least, field.most, field.most + 1, math.MaxInt} {
			want := api.ErrArg
			if n >= field.least && n <= field.most {
				want = api.OK
			}
			// It counts at every place, the last one, too.
			for place := range 3 {
				l := []api.Step{step(), step(), step()}
				field.set(&l[place], n)
				if e := dag.Check(l); e != want {
					t.Errorf("P13.1: %s %d at %d: Check = %d, want %d", field.name, n, place, e, want)
				}
				if order := dag.Order(l); (len(order) == 3) != (want == api.OK) {
					t.Errorf("P13.1: %s %d at %d: Order = %v", field.name, n, place, order)
				}
				if want != api.OK {
					refused(t, l, same(3, dag.Open), want)
				}
			}
		}
	}
}

func TestCheckHowMany(t *testing.T) {
	for _, n := range []int{0, 1, 2, 15, 16, 17, 40} {
		l := slices.Repeat([]api.Step{step()}, n)
		want := api.ErrArg
		if n >= 1 && n <= 16 {
			want = api.OK
		}
		if e := dag.Check(l); e != want {
			t.Errorf("P13.1: %d steps: Check = %d, want %d", n, e, want)
		}
		if want != api.OK {
			refused(t, l, same(n, dag.Open), want)
		}
	}
	if dag.Check([]api.Step{}) != api.ErrArg || len(dag.Order([]api.Step{})) != 0 {
		t.Error("P13.1: no steps may not be")
	}
}

func TestCheckEdges(t *testing.T) {
	for i, c := range []struct {
		l    []api.Step
		want api.Errno
	}{
		{[]api.Step{step(), step(onOK(0))}, api.OK},
		{[]api.Step{step(onNotOK(1)), step()}, api.OK},
		{[]api.Step{step(), step(), step(onOK(0), onAny(1))}, api.OK},
		{[]api.Step{step(), step(), step(onOK(1), onOK(0))}, api.OK},
		{[]api.Step{step(onOK(0))}, api.ErrArg},
		{[]api.Step{step(), step(onAny(1))}, api.ErrArg},
		{[]api.Step{step(), step(onOK(2))}, api.ErrArg},
		{[]api.Step{step(), step(onOK(-1))}, api.ErrArg},
		{[]api.Step{step(), step(onOK(math.MinInt))}, api.ErrArg},
		{[]api.Step{step(), step(onOK(math.MaxInt))}, api.ErrArg},
		{[]api.Step{step(), step(api.Edge{Step: 0, Kind: -1})}, api.ErrArg},
		{[]api.Step{step(), step(api.Edge{Step: 0, Kind: 3})}, api.ErrArg},
		{[]api.Step{step(), step(api.Edge{Step: 0, Kind: math.MinInt})}, api.ErrArg},
		{[]api.Step{step(), step(api.Edge{Step: 0, Kind: math.MaxInt})}, api.ErrArg},
		// No two edges of one step are of the same step, of whatever Kind.
		{[]api.Step{step(), step(onOK(0), onOK(0))}, api.ErrArg},
		{[]api.Step{step(), step(onOK(0), onNotOK(0))}, api.ErrArg},
		{[]api.Step{step(), step(), step(onOK(0), onOK(1), onAny(0))}, api.ErrArg},
		{[]api.Step{step(), step(onOK(0)), step(onOK(0))}, api.OK},
		{[]api.Step{step(), step(slices.Repeat([]api.Edge{onOK(0)}, 1000)...)}, api.ErrArg},
		// A fault at the last edge of the last step.
		{[]api.Step{step(), step(), step(onOK(0), onOK(3))}, api.ErrArg},
	} {
		if e := dag.Check(c.l); e != c.want {
			t.Errorf("P13.1: case %d: Check = %d, want %d", i, e, c.want)
		}
		if order := dag.Order(c.l); (len(order) == len(c.l)) != (c.want == api.OK) || c.want != api.OK && len(order) != 0 {
			t.Errorf("P13.1: case %d: Order = %v", i, order)
		}
		if c.want != api.OK {
			refused(t, c.l, same(len(c.l), dag.Open), c.want)
		}
	}
}

func TestCheckCycles(t *testing.T) {
	ring := chain(16, onAny)
	ring[0] = step(onAny(15))
	for i, l := range [][]api.Step{
		{step(onOK(1)), step(onOK(0))},
		{step(onAny(1)), step(onNotOK(0))},
		{step(onOK(2)), step(onOK(0)), step(onOK(1))},
		{step(), step(onOK(2), onOK(0)), step(onOK(1))},
		// One that is behind a cycle, and one ahead of it.
		{step(onOK(1)), step(onOK(2)), step(onOK(1))},
		{step(), step(onOK(0), onOK(2)), step(onOK(1)), step()},
		ring,
	} {
		if e := dag.Check(l); e != api.ErrCycle {
			t.Errorf("P13.1: case %d: Check = %d, want %d", i, e, api.ErrCycle)
		}
		if order := dag.Order(l); len(order) != 0 {
			t.Errorf("P13.1: case %d: Order = %v", i, order)
		}
		// Ahead of codes that may not be.
		refused(t, l, nil, api.ErrCycle)
		refused(t, l, same(len(l), 1000), api.ErrCycle)
		refused(t, l, same(len(l), 0), api.ErrCycle)
		// Any other reason is told ahead of a cycle.
		l = clone(l)
		l[len(l)-1].Ranks = 0
		if e := dag.Check(l); e != api.ErrArg {
			t.Errorf("P13.1: case %d without ranks: Check = %d, want %d", i, e, api.ErrArg)
		}
		refused(t, l, nil, api.ErrArg)
	}
}

func TestOrder(t *testing.T) {
	backward := make([]api.Step, 16)
	for i := range backward {
		backward[i] = step()
		if i < 15 {
			backward[i] = step(onOK(i + 1))
		}
	}
	for i, c := range []struct {
		l    []api.Step
		want []int
	}{
		{[]api.Step{step()}, []int{0}},
		{[]api.Step{step(), step(), step()}, []int{0, 1, 2}},
		{[]api.Step{step(onOK(1)), step(onOK(2)), step()}, []int{2, 1, 0}},
		// As soon as a lesser one may come, it comes next.
		{[]api.Step{step(onOK(2)), step(onOK(3)), step(), step(), step()}, []int{2, 0, 3, 1, 4}},
		{[]api.Step{step(onAny(3)), step(), step(onNotOK(0)), step(), step(onOK(1))}, []int{1, 3, 0, 2, 4}},
		{[]api.Step{step(onOK(1), onOK(3)), step(), step(), step()}, []int{1, 2, 3, 0}},
		{chain(16, onOK), []int{0, 1, 2, 3, 4, 5, 6, 7, 8, 9, 10, 11, 12, 13, 14, 15}},
		{backward, []int{15, 14, 13, 12, 11, 10, 9, 8, 7, 6, 5, 4, 3, 2, 1, 0}},
	} {
		if order := dag.Order(c.l); !slices.Equal(order, c.want) {
			t.Errorf("P13.1: case %d: Order = %v, want %v", i, order, c.want)
		}
	}
}

func TestCodesThatMayNotBe(t *testing.T) {
	l := chain(3, onOK)
	for _, codes := range [][]int{
		nil, {}, {0}, {0, 0}, {0, 0, 0, 0}, {-2, 0, 0}, {0, 0, -2}, {257, 0, 0}, {0, 0, 257},
		{math.MinInt, 0, 0}, {0, math.MaxInt, 0},
	} {
		refused(t, l, codes, api.ErrForm)
	}
	for _, code := range []int{-1, 0, 1, 255, 256} {
		if _, e := dag.Ready(l, same(3, code)); e != api.OK {
			t.Errorf("P13.2: Ready of codes %d: %d", code, e)
		}
		if settled, e := dag.Settle(l, same(3, code)); e != api.OK || !slices.Equal(settled, same(3, code)) {
			t.Errorf("P13.2: Settle of codes %d: %v, %d", code, settled, e)
		}
	}
}

// TestEdges asks each Kind by each code.
func TestEdges(t *testing.T) {
	for _, code := range []int{-1, 0, 1, 2, 137, 254, 255, 256} {
		for kind, held := range []bool{code == 0, code != -1, code >= 1 && code <= 255} {
			l := []api.Step{step(), step(api.Edge{Step: 0, Kind: kind})}
			var want []int
			if code == -1 {
				want = append(want, 0)
			}
			if held {
				want = append(want, 1)
			}
			if ready, e := dag.Ready(l, []int{code, -1}); e != api.OK || !slices.Equal(ready, want) {
				t.Errorf("P13.2: Kind %d by %d: Ready = %v, %d, want %v", kind, code, ready, e, want)
			}
			then := -1
			if code != -1 && !held {
				then = 256
			}
			if settled, e := dag.Settle(l, []int{code, -1}); e != api.OK || !slices.Equal(settled, []int{code, then}) {
				t.Errorf("P13.2: Kind %d by %d: Settle = %v, %d, want %d", kind, code, settled, e, then)
			}
		}
	}
}

func TestReady(t *testing.T) {
	l := []api.Step{step(onOK(3), onAny(2)), step(onNotOK(2)), step(), step(), step(onAny(0))}
	for i, c := range []struct{ codes, want []int }{
		{[]int{-1, -1, -1, -1, -1}, []int{2, 3}},
		{[]int{-1, -1, 0, -1, -1}, []int{3}},
		{[]int{-1, -1, 4, -1, -1}, []int{1, 3}},
		{[]int{-1, -1, 4, 0, -1}, []int{0, 1}},
		// Who would be skipped is Open till it is: nobody goes by it.
		{[]int{-1, -1, 0, 1, -1}, nil},
		{[]int{256, 256, 0, 1, -1}, []int{4}},
		// Who is not Open is not ready, whatever its edges say.
		{[]int{0, 0, 0, 0, 0}, nil},
		{[]int{7, -1, -1, -1, -1}, []int{2, 3, 4}},
	} {
		if ready, e := dag.Ready(l, c.codes); e != api.OK || !slices.Equal(ready, c.want) {
			t.Errorf("P13.2: case %d: Ready = %v, %d, want %v", i, ready, e, c.want)
		}
	}
}

func TestSettle(t *testing.T) {
	// Who waits stands ahead of whom it waits for, too.
	back := []api.Step{step(onOK(1)), step(onOK(2)), step(onOK(3)), step()}
	mixed := []api.Step{step(), step(onOK(0)), step(onAny(1)), step(onNotOK(1)), step(onOK(2), onAny(3))}
	for i, c := range []struct {
		l           []api.Step
		codes, want []int
	}{
		{chain(2, onOK), []int{3, -1}, []int{3, 256}},
		{chain(4, onOK), []int{3, -1, -1, -1}, []int{3, 256, 256, 256}},
		{chain(4, onNotOK), []int{0, -1, -1, -1}, []int{0, 256, 256, 256}},
		{chain(4, onAny), []int{256, -1, -1, -1}, []int{256, -1, -1, -1}},
		{back, []int{-1, -1, -1, 9}, []int{256, 256, 256, 9}},
		{back, []int{-1, -1, -1, -1}, []int{-1, -1, -1, -1}},
		{mixed, []int{1, -1, -1, -1, -1}, []int{1, 256, -1, 256, -1}},
		{mixed, []int{1, -1, 2, -1, -1}, []int{1, 256, 2, 256, 256}},
		{mixed, []int{1, -1, 0, -1, -1}, []int{1, 256, 0, 256, -1}},
		// One edge that fails is enough, though another one is still to come.
		{[]api.Step{step(), step(), step(onOK(0), onOK(1))}, []int{-1, 1, -1}, []int{-1, 1, 256}},
		// Who ended stays as it ended, even if its edges fail.
		{chain(3, onOK), []int{1, 0, -1}, []int{1, 0, -1}},
	} {
		if settled, e := dag.Settle(c.l, c.codes); e != api.OK || !slices.Equal(settled, c.want) {
			t.Errorf("P13.2: case %d: Settle = %v, %d, want %v", i, settled, e, c.want)
		}
	}
}

func TestOver(t *testing.T) {
	for i, c := range []struct {
		l     []api.Step
		codes []int
		code  int
		over  bool
	}{
		{chain(1, onOK), []int{-1}, 0, false},
		{chain(1, onOK), []int{0}, 0, true},
		{chain(1, onOK), []int{255}, 255, true},
		{chain(1, onOK), []int{256}, 0, true},
		{chain(3, onOK), []int{3, -1, -1}, 3, true},
		{chain(3, onOK), []int{256, 256, 256}, 0, true},
		{chain(3, onOK), []int{256, 7, 9}, 9, true},
		{chain(3, onOK), []int{9, 7, 0}, 9, true},
		{chain(3, onOK), []int{0, -1, -1}, 0, false},
		{chain(3, onAny), []int{3, -1, -1}, 0, false},
		{[]api.Step{step(), step(), step(onOK(0))}, []int{200, -1, -1}, 0, false},
		{[]api.Step{step(), step(), step(onOK(0))}, []int{200, 1, -1}, 200, true},
	} {
		if code, over := dag.Over(c.l, c.codes); code != c.code || over != c.over {
			t.Errorf("P13.3: case %d: Over = %d, %v, want %d, %v", i, code, over, c.code, c.over)
		}
	}
}

// TestApart asks whether what is handed in stays as it is, and what is answered is nobody else's.
func TestApart(t *testing.T) {
	l := []api.Step{step(onOK(1), onAny(2)), step(onNotOK(2)), step()}
	codes := []int{-1, -1, 0}
	before, beforeCodes := clone(l), slices.Clone(codes)
	order, settled := dag.Order(l), []int(nil)
	ready, _ := dag.Ready(l, []int{-1, -1, -1})
	settled, _ = dag.Settle(l, codes)
	dag.Check(l)
	dag.Over(l, codes)
	if differ(l, before) || !slices.Equal(codes, beforeCodes) {
		t.Errorf("R5: %v, %v", l, codes)
	}
	order[0], ready[0], settled[0] = 77, 77, 77
	if differ(l, before) || !slices.Equal(codes, beforeCodes) || !slices.Equal(dag.Order(l), []int{2, 1, 0}) {
		t.Errorf("R5: %v, %v", l, codes)
	}
	whole := []int{0, 0, 0}
	all, _ := dag.Settle(l, whole)
	all[0] = 77
	if whole[0] != 0 {
		t.Error("R5: Settle answers what it was handed")
	}
}
