package trace_test

import (
	"fmt"
	"math"
	"slices"
	"testing"

	"roundhouse/api"
	"roundhouse/cores"
	"roundhouse/dag"
	"roundhouse/rec"
	"roundhouse/trace"
	"roundhouse/wire"
	"roundhouse/world"
)

const (
	least = math.MinInt
	most  = math.MaxInt
)

// after is an edge.
func after(kind, step int) api.Edge { return api.Edge{Step: step, Kind: kind} }

// step is one of two ranks of three cores each, behind those that its edges name.
func step(edges ...api.Edge) api.Step { return api.Step{Ranks: 2, Per: 3, After: edges} }

// on is a job on nodes.
func on(nodes []int, steps ...api.Step) api.Job { return api.Job{Nodes: nodes, Steps: steps} }

// did is the event of a node's record, of job 1.
func did(kind, node, step, arg int) world.Event {
	return world.Event{Kind: kind, Node: node, Job: 1, Step: step, Arg: arg}
}

// goes is the event of a step of job 1 that all hold.
func goes(step int) world.Event { return did(world.Goes, -1, step, 0) }

// code is the event of a step of job 1 that has a code.
func code(step, arg int) world.Event { return did(world.Code, -1, step, arg) }

// in are events, of another epoch.
func in(epoch int, l ...world.Event) []world.Event {
	l = slices.Clone(l)
	for i := range l {
		l[i].Epoch = epoch
	}
	return l
}

// of are events, of another job.
func of(job int, l ...world.Event) []world.Event {
	l = slices.Clone(l)
	for i := range l {
		l[i].Job = job
	}
	return l
}

// two are two jobs on nodes 0 and 1 of two steps, and one on node 2.
func two() []api.Job {
	return []api.Job{on([]int{0, 1}, step(), step()), on([]int{0, 1}, step(), step()), on([]int{2}, step())}
}

// What was seen of job 1 on both nodes, further each time: prologs, and that its step 0 is held, goes, runs, and ended.
var (
	up   = []world.Event{did(rec.Prolog, 0, 0, 0), did(rec.Prolog, 1, 0, 0)}
	held = slices.Concat(up, []world.Event{did(rec.Held, 0, 0, 0), did(rec.Held, 1, 0, 0)})
	went = slices.Concat(held, []world.Event{goes(0)})
	runs = slices.Concat(went, []world.Event{did(rec.Released, 0, 0, 0), did(rec.Released, 1, 0, 0)})
	done = slices.Concat(runs, []world.Event{did(rec.Ended, 0, 0, 3), did(rec.Ended, 1, 0, 5)})
)

// checks fails unless Check tells that of the events.
func checks(t *testing.T, jobs []api.Job, l []world.Event, place int, want api.Errno) {
	t.Helper()
	if n, e := trace.Check(jobs, l); n != place || e != want {
		t.Errorf("P21.1: Check(%v) = %d, %d, want %d, %d", l, n, e, place, want)
	}
}

// last fails unless all but the last event may be, and that tells the error; what stands behind does not count.
func last(t *testing.T, jobs []api.Job, want api.Errno, l ...world.Event) {
	t.Helper()
	place := len(l)
	if want != api.OK {
		place--
	}
	checks(t, jobs, l, place, want)
	if want == api.OK {
		checks(t, jobs, append(slices.Clone(l), world.Event{}), place, api.ErrForm)
		return
	}
	checks(t, jobs, slices.Concat(l, []world.Event{{}}, l), place, want)
}

// behind is l, and events behind it.
func behind(l []world.Event, more ...world.Event) []world.Event { return slices.Concat(l, more) }

func TestCheckOfNothing(t *testing.T) {
	for _, jobs := range [][]api.Job{nil, {}, two()} {
		for _, l := range [][]world.Event{nil, {}} {
			checks(t, jobs, l, 0, api.OK)
		}
	}
	checks(t, nil, up, 0, api.ErrForm)
}

// TestExample is the example of the document.
func TestExample(t *testing.T) {
	last(t, two(), api.ErrState, behind(held, did(rec.Released, 0, 0, 0))...)
}

// TestForm has events that may not be told, behind others that would allow them.
func TestForm(t *testing.T) {
	steps := []int{rec.Held, rec.Refused, rec.Released, rec.Aborted, rec.Ended, world.Goes, world.Code}
	var bad []world.Event
	for _, n := range []int{least, -1, 0, 4, most} {
		bad = append(bad, of(n, did(rec.Prolog, 0, 0, 0))...)
		bad = append(bad, of(n, code(0, 255))...)
	}
	for _, n := range []int{least, -1} {
		bad = append(bad, in(n, did(rec.Prolog, 0, 0, 0))...)
		bad = append(bad, in(n, code(0, 255))...)
	}
	for _, kind := range []int{least, -1, 8, 9, 12, most} {
		bad = append(bad, did(kind, 0, 0, 0), did(kind, -1, 0, 0))
	}
	for _, node := range []int{least, -1, 2, most} {
		for kind := rec.Prolog; kind <= rec.Void; kind++ {
			bad = append(bad, did(kind, node, 0, 0))
		}
	}
	for _, node := range []int{least, -2, 0, 1, most} {
		bad = append(bad, did(world.Goes, node, 0, 0), did(world.Code, node, 0, 255))
	}
	for _, place := range []int{least, -1, 2, most} {
		for _, kind := range steps {
			bad = append(bad, did(kind, 0, place, 0), did(kind, -1, place, 255))
		}
	}
	for _, e := range bad {
		for _, l := range [][]world.Event{nil, up, held, runs, done} {
			last(t, two(), api.ErrForm, behind(l, e)...)
		}
	}
}

// TestStepOfJob has kinds that are of a job as a whole: their Step is whatever it is.
func TestStepOfJob(t *testing.T) {
	for _, n := range []int{least, -1, 0, 1, 2, most} {
		last(t, two(), api.OK, did(rec.Prolog, 0, n, 0), did(rec.Void, 1, n, 0), did(rec.Held, 0, 1, 0), did(rec.Aborted, 0, 1, 0), did(rec.Epilog, 0, n, 0))
		last(t, two(), api.ErrState, did(rec.Prolog, 0, n, 0), did(rec.Prolog, 0, 1, 0))
		last(t, two(), api.ErrState, did(rec.Prolog, 0, n, 0), did(rec.Epilog, 0, 1, 0), did(rec.Epilog, 0, n, 0))
		last(t, two(), api.ErrState, did(rec.Void, 0, 1, 0), did(rec.Prolog, 0, n, 0))
	}
}

// TestArgs has kinds whose Arg may be whatever it is.
func TestArgs(t *testing.T) {
	for _, n := range []int{least, -1, 0, 1, 256, most} {
		held := []world.Event{did(rec.Prolog, 0, 0, 0), did(rec.Prolog, 1, 0, 0), did(rec.Held, 0, 0, n), did(rec.Held, 1, 0, n)}
		last(t, two(), api.OK, behind(held, did(rec.Refused, 0, 1, n), did(rec.Aborted, 0, 0, n), did(rec.Epilog, 0, 0, n))...)
		last(t, two(), api.OK, behind(held, did(world.Goes, -1, 0, n), did(rec.Released, 1, 0, n), did(rec.Ended, 1, 0, n), did(rec.Epilog, 1, 0, n))...)
		last(t, two(), api.OK, did(rec.Void, 0, 0, n))
	}
}

// TestProlog has a node begin once, and not behind a Void; likewise that.
func TestProlog(t *testing.T) {
	jobs := two()
	for _, first := range []int{rec.Prolog, rec.Void} {
		for _, then := range []int{rec.Prolog, rec.Void} {
			last(t, jobs, api.ErrState, did(first, 0, 0, 0), did(then, 0, 0, 0))
			last(t, jobs, api.ErrState, did(first, 0, 0, 4), did(then, 0, 0, 4))
			last(t, jobs, api.OK, did(first, 0, 0, 0), did(then, 1, 0, 0))
			last(t, jobs, api.OK, behind(in(1, did(first, 0, 0, 0)), did(then, 0, 0, 0))...)
			last(t, jobs, api.OK, behind(of(2, did(first, 0, 0, 0)), did(then, 0, 0, 0))...)
		}
	}
	last(t, jobs, api.ErrState, behind(up, did(rec.Epilog, 0, 0, 0), did(rec.Prolog, 0, 0, 0))...)
	last(t, jobs, api.OK, in(most, did(rec.Prolog, 0, 0, 0))...)
}

// TestHeld has a node hold, or refuse, a step: behind its prolog, ahead of its epilog, once.
func TestHeld(t *testing.T) {
	jobs := two()
	for _, kind := range []int{rec.Held, rec.Refused} {
		x := did(kind, 0, 0, 0)
		last(t, jobs, api.OK, did(rec.Prolog, 0, 0, 0), x)
		last(t, jobs, api.ErrState, x)
		last(t, jobs, api.ErrState, did(rec.Void, 0, 0, 0), x)
		for _, arg := range []int{least, -1, 1, most} {
			last(t, jobs, api.ErrState, did(rec.Prolog, 0, 0, arg), x)
		}
		last(t, jobs, api.ErrState, did(rec.Prolog, 1, 0, 0), x)
		last(t, jobs, api.ErrState, behind(in(1, did(rec.Prolog, 0, 0, 0)), x)...)
		last(t, jobs, api.ErrState, behind(of(2, did(rec.Prolog, 0, 0, 0)), x)...)
		last(t, jobs, api.ErrState, behind(up, did(rec.Epilog, 0, 0, 0), x)...)
		last(t, jobs, api.OK, behind(up, did(rec.Epilog, 1, 0, 0), x)...)
		for _, first := range []int{rec.Held, rec.Refused} {
			last(t, jobs, api.ErrState, behind(up, did(first, 0, 0, 0), x)...)
			last(t, jobs, api.OK, behind(up, did(first, 1, 0, 0), x)...)
			last(t, jobs, api.OK, behind(up, did(first, 0, 1, 0), x)...)
		}
		last(t, jobs, api.ErrState, behind(went, x)...)
		last(t, jobs, api.ErrState, behind(done, x)...)
		last(t, jobs, api.ErrState, behind(held, did(rec.Aborted, 0, 0, 0), x)...)
	}
	last(t, jobs, api.OK, behind(went, did(rec.Held, 0, 1, 0), did(rec.Refused, 1, 1, 0))...)
}

// TestReleased has a node release a step: behind Held, and Goes, once, and not behind Aborted.
func TestReleased(t *testing.T) {
	jobs, x := two(), did(rec.Released, 0, 0, 0)
	last(t, jobs, api.OK, behind(went, x)...)
	last(t, jobs, api.ErrState, behind(held, x)...)
	last(t, jobs, api.ErrState, behind(up, x)...)
	last(t, jobs, api.ErrState, behind(went, x, x)...)
	last(t, jobs, api.ErrState, behind(went, did(rec.Released, 0, 1, 0))...)
	last(t, jobs, api.ErrState, behind(went, did(rec.Held, 0, 1, 0), did(rec.Released, 0, 1, 0))...)
	last(t, jobs, api.OK, behind(went, did(rec.Released, 1, 0, 0), x)...)
	last(t, jobs, api.ErrState, behind(went, in(1, x)...)...)
	last(t, jobs, api.ErrState, behind(went, of(2, x)...)...)
	last(t, jobs, api.ErrState, behind(done, x)...)
	last(t, jobs, api.ErrState, behind(slices.Concat(went, in(1, held...)), in(1, x)...)...)
	last(t, jobs, api.OK, behind(slices.Concat(went, in(1, went...)), in(1, x)...)...)
}

// TestAborted has a node abort a step: behind Held, not behind Goes, once.
func TestAborted(t *testing.T) {
	jobs, x := two(), did(rec.Aborted, 0, 0, 0)
	last(t, jobs, api.OK, behind(held, x)...)
	last(t, jobs, api.OK, behind(up, did(rec.Held, 0, 0, 0), x)...)
	last(t, jobs, api.OK, behind(held, code(0, 255), x)...)
	last(t, jobs, api.ErrState, behind(went, x)...)
	last(t, jobs, api.ErrState, behind(runs, x)...)
	last(t, jobs, api.ErrState, behind(up, x)...)
	last(t, jobs, api.ErrState, behind(up, did(rec.Refused, 0, 0, 0), x)...)
	last(t, jobs, api.ErrState, behind(up, did(rec.Held, 1, 0, 0), x)...)
	last(t, jobs, api.ErrState, behind(up, did(rec.Held, 0, 1, 0), x)...)
	last(t, jobs, api.ErrState, behind(held, x, x)...)
	last(t, jobs, api.OK, behind(held, x, did(rec.Aborted, 1, 0, 0))...)
	last(t, jobs, api.OK, behind(went, did(rec.Held, 0, 1, 0), did(rec.Aborted, 0, 1, 0))...)
	last(t, jobs, api.ErrState, behind(held, in(1, x)...)...)
	last(t, jobs, api.ErrState, behind(held, of(2, x)...)...)
	// What was aborted is released nowhere on that node, even if it goes.
	last(t, jobs, api.ErrState, behind(held, x, goes(0), did(rec.Released, 0, 0, 0))...)
}

// TestEnded has a step end: behind Released, once.
func TestEnded(t *testing.T) {
	jobs, x := two(), did(rec.Ended, 0, 0, 3)
	last(t, jobs, api.OK, behind(runs, x)...)
	last(t, jobs, api.ErrState, behind(went, x)...)
	last(t, jobs, api.ErrState, behind(went, did(rec.Released, 1, 0, 0), x)...)
	last(t, jobs, api.ErrState, behind(runs, x, x)...)
	last(t, jobs, api.ErrState, behind(runs, x, did(rec.Ended, 0, 0, 4))...)
	last(t, jobs, api.OK, behind(runs, did(rec.Ended, 1, 0, 3), x)...)
	last(t, jobs, api.ErrState, behind(runs, did(rec.Ended, 0, 1, 3))...)
	last(t, jobs, api.ErrState, behind(held, did(rec.Aborted, 0, 0, 0), x)...)
	last(t, jobs, api.ErrState, behind(runs, in(1, x)...)...)
	last(t, jobs, api.ErrState, behind(runs, of(2, x)...)...)
}

// TestEpilog has a node be done: behind its prolog, once, and if nothing lives on it.
func TestEpilog(t *testing.T) {
	jobs, x := two(), did(rec.Epilog, 0, 0, 0)
	last(t, jobs, api.OK, behind(up, x)...)
	last(t, jobs, api.OK, did(rec.Prolog, 0, 0, 4), x)
	last(t, jobs, api.ErrState, x)
	last(t, jobs, api.ErrState, did(rec.Void, 0, 0, 0), x)
	last(t, jobs, api.ErrState, did(rec.Prolog, 1, 0, 0), x)
	last(t, jobs, api.ErrState, behind(in(1, did(rec.Prolog, 0, 0, 0)), x)...)
	last(t, jobs, api.ErrState, behind(of(2, did(rec.Prolog, 0, 0, 0)), x)...)
	last(t, jobs, api.ErrState, behind(up, x, x)...)
	last(t, jobs, api.OK, behind(up, x, did(rec.Epilog, 1, 0, 0))...)
	last(t, jobs, api.ErrState, behind(held, x)...)
	last(t, jobs, api.ErrState, behind(went, x)...)
	last(t, jobs, api.ErrState, behind(runs, x)...)
	last(t, jobs, api.ErrState, behind(runs, did(rec.Ended, 1, 0, 0), x)...)
	last(t, jobs, api.OK, behind(runs, did(rec.Ended, 0, 0, 0), x)...)
	last(t, jobs, api.OK, behind(held, did(rec.Aborted, 0, 0, 0), x)...)
	last(t, jobs, api.OK, behind(up, did(rec.Refused, 0, 1, 0), x)...)
	last(t, jobs, api.OK, behind(up, did(rec.Held, 1, 1, 0), x)...)
	last(t, jobs, api.ErrState, behind(done, did(rec.Held, 0, 1, 0), x)...)
	last(t, jobs, api.OK, behind(done, did(rec.Held, 0, 1, 0), did(rec.Aborted, 0, 1, 0), x)...)
	last(t, jobs, api.OK, behind(slices.Concat(up, in(1, held...)), x)...)
	last(t, jobs, api.OK, behind(slices.Concat(up, of(2, held...)), x)...)
}

// TestGoes has a step go: if all of its nodes hold it, once, and not if it has a code.
func TestGoes(t *testing.T) {
	jobs, x := two(), goes(0)
	last(t, jobs, api.OK, behind(held, x)...)
	last(t, jobs, api.ErrState, x)
	last(t, jobs, api.ErrState, behind(up, x)...)
	for node := range 2 {
		last(t, jobs, api.ErrState, behind(up, did(rec.Held, node, 0, 0), x)...)
		last(t, jobs, api.ErrState, behind(up, did(rec.Held, node, 0, 0), did(rec.Refused, 1-node, 0, 0), x)...)
		last(t, jobs, api.ErrState, behind(up, did(rec.Held, node, 0, 0), did(rec.Held, 1-node, 1, 0), x)...)
	}
	last(t, jobs, api.ErrState, behind(held, x, x)...)
	last(t, jobs, api.ErrState, behind(held, goes(1))...)
	last(t, jobs, api.ErrState, behind(held, code(0, 255), x)...)
	last(t, jobs, api.ErrState, behind(held, code(0, 256), x)...)
	last(t, jobs, api.OK, behind(held, code(1, 255), x)...)
	last(t, jobs, api.ErrState, behind(done, code(0, 5), x)...)
	last(t, jobs, api.ErrState, behind(held, in(1, x)...)...)
	last(t, jobs, api.ErrState, behind(held, of(2, x)...)...)
	last(t, jobs, api.ErrState, behind(slices.Concat(held, in(1, up...)), in(1, did(rec.Held, 0, 0, 0), x)...)...)
	// Who holds is asked, not who goes on holding.
	last(t, jobs, api.OK, behind(held, did(rec.Aborted, 0, 0, 0), x)...)
}

// TestEdges has a step wait for another one that has a code, or none.
func TestEdges(t *testing.T) {
	by := func(n int) []world.Event {
		// Of a job of one node: the step ends by that, and has that code.
		l := []world.Event{did(rec.Prolog, 0, 0, 0), did(rec.Held, 0, 0, 0), goes(0), did(rec.Released, 0, 0, 0), did(rec.Ended, 0, 0, n)}
		return append(l, code(0, n), did(rec.Held, 0, 1, 0), goes(1))
	}
	for _, c := range []struct {
		code  int
		holds [3]bool // by the edges' kinds
	}{
		{0, [3]bool{true, true, false}}, {1, [3]bool{false, true, true}}, {255, [3]bool{false, true, true}}, {256, [3]bool{false, true, false}},
		{dag.Open, [3]bool{}}, {-2, [3]bool{false, true, false}}, {most, [3]bool{false, true, false}}, {least, [3]bool{false, true, false}},
	} {
		for kind, as := range map[int]int{0: 0, 1: 1, 2: 2, 3: 2, -1: 2, least: 2, most: 2} {
			want := api.ErrState
			if c.holds[as] {
				want = api.OK
			}
			last(t, []api.Job{on([]int{0}, step(), step(after(kind, 0)))}, want, by(c.code)...)
		}
	}
}

// TestEdgesOfWhatDidNotGo has a step wait for one that was refused, or skipped, or has no code.
func TestEdgesOfWhatDidNotGo(t *testing.T) {
	l := []world.Event{did(rec.Prolog, 0, 0, 0), did(rec.Held, 0, 1, 0)}
	for _, c := range []struct {
		kind, code int
		want       api.Errno
	}{
		{api.AfterOK, 255, api.ErrState}, {api.AfterAny, 255, api.OK}, {api.AfterNotOK, 255, api.OK},
		{api.AfterOK, 256, api.ErrState}, {api.AfterAny, 256, api.OK}, {api.AfterNotOK, 256, api.ErrState},
	} {
		jobs := []api.Job{on([]int{0}, step(), step(after(c.kind, 0))), on([]int{0}, step(), step())}
		last(t, jobs, c.want, behind(l, code(0, c.code), goes(1))...)
		last(t, jobs, api.ErrState, behind(l, goes(1))...)
		last(t, jobs, api.ErrState, behind(slices.Concat(l, in(1, code(0, c.code))), goes(1))...)
		last(t, jobs, api.ErrState, behind(slices.Concat(l, of(2, code(0, c.code))), goes(1))...)
	}
}

// TestOddEdges has a step wait for several, for itself, and for what is no step.
func TestOddEdges(t *testing.T) {
	l := []world.Event{did(rec.Prolog, 0, 0, 0), did(rec.Held, 0, 2, 0), code(0, 255), code(1, 256)}
	for _, c := range []struct {
		want  api.Errno
		edges []api.Edge
	}{
		{api.OK, nil},
		{api.OK, []api.Edge{after(api.AfterAny, 0), after(api.AfterAny, 1)}},
		{api.OK, []api.Edge{after(api.AfterNotOK, 0), after(api.AfterAny, 1), after(api.AfterAny, 0)}},
		{api.ErrState, []api.Edge{after(api.AfterNotOK, 0), after(api.AfterNotOK, 1)}},
		{api.ErrState, []api.Edge{after(api.AfterOK, 0), after(api.AfterAny, 1)}},
		{api.ErrState, []api.Edge{after(api.AfterAny, 2)}},
		{api.ErrState, []api.Edge{after(api.AfterAny, 3)}},
		{api.ErrState, []api.Edge{after(api.AfterAny, -1)}},
		{api.ErrState, []api.Edge{after(api.AfterOK, most)}},
		{api.ErrState, []api.Edge{after(api.AfterNotOK, least)}},
	} {
		last(t, []api.Job{on([]int{0}, step(), step(), step(c.edges...))}, c.want, behind(l, goes(2))...)
	}
}

// TestCode has a step have a code, once: the worst one of all nodes, if it goes.
func TestCode(t *testing.T) {
	jobs := two()
	for _, n := range []int{least, -1, 0, 3, 4, 6, 255, 256, most} {
		last(t, jobs, api.ErrState, behind(done, code(0, n))...)
		for _, l := range [][]world.Event{nil, up, held} {
			want := api.ErrState
			if n == 255 || n == 256 {
				want = api.OK
			}
			last(t, jobs, want, behind(l, code(0, n))...)
		}
		last(t, jobs, api.ErrState, behind(went, code(0, n))...)
		last(t, jobs, api.ErrState, behind(runs, code(0, n))...)
		last(t, jobs, api.ErrState, behind(done, code(0, 5), code(0, n))...)
	}
	last(t, jobs, api.OK, behind(done, code(0, 5))...)
	last(t, jobs, api.ErrState, behind(runs, did(rec.Ended, 1, 0, 5), code(0, 5))...)
	last(t, jobs, api.ErrState, behind(runs, did(rec.Ended, 0, 0, 5), code(0, 5))...)
	last(t, jobs, api.ErrState, code(0, 255), code(0, 255))
	last(t, jobs, api.ErrState, code(0, 255), code(0, 256))
	last(t, jobs, api.OK, code(0, 255), code(1, 256))
	last(t, jobs, api.OK, behind(slices.Concat(of(2, code(0, 255)), in(1, code(0, 256))), code(0, 256))...)
	last(t, jobs, api.ErrState, behind(done, in(1, code(0, 5))...)...)
	for _, c := range [][3]int{{5, 3, 5}, {-5, -3, -3}, {-3, -5, -3}, {0, 0, 0}, {-1, 0, 0}, {least, most, most}, {least, least, least}} {
		last(t, jobs, api.OK, behind(runs, did(rec.Ended, 0, 0, c[0]), did(rec.Ended, 1, 0, c[1]), code(0, c[2]))...)
	}
	last(t, jobs, api.ErrState, behind(runs, did(rec.Ended, 0, 0, -5), did(rec.Ended, 1, 0, -3), code(0, 0))...)
}

// TestOddJobs has jobs without nodes, without steps, and with a node twice.
func TestOddJobs(t *testing.T) {
	none := []api.Job{on(nil, step(), step(after(api.AfterOK, 0)))}
	last(t, none, api.OK, goes(0), code(0, 0), goes(1), code(1, 0))
	last(t, none, api.ErrState, goes(0), code(0, 1))
	last(t, none, api.ErrState, goes(0), code(0, 255))
	last(t, none, api.ErrState, goes(0), goes(1))
	last(t, none, api.OK, code(0, 256), code(1, 256))
	last(t, none, api.ErrForm, did(rec.Prolog, 0, 0, 0))
	empty := []api.Job{on([]int{4})}
	last(t, empty, api.OK, did(rec.Prolog, 4, 0, 0), did(rec.Epilog, 4, 0, 0))
	last(t, empty, api.ErrForm, did(rec.Prolog, 4, 0, 0), did(rec.Held, 4, 0, 0))
	last(t, empty, api.ErrForm, code(0, 255))
	twice := []api.Job{on([]int{4, 4}, step())}
	l := []world.Event{did(rec.Prolog, 4, 0, 0), did(rec.Held, 4, 0, 0), goes(0), did(rec.Released, 4, 0, 0), did(rec.Ended, 4, 0, 2)}
	last(t, twice, api.OK, behind(l, code(0, 2))...)
	below := []api.Job{on([]int{-1}, step())}
	last(t, below, api.OK, did(rec.Prolog, -1, 0, 0), did(rec.Held, -1, 0, 0), goes(0), did(rec.Released, -1, 0, 0))
	far := []api.Job{on([]int{most, least}, step())}
	last(t, far, api.OK, did(rec.Prolog, most, 0, 0), did(rec.Prolog, least, 0, 0), did(rec.Held, most, 0, 0), did(rec.Held, least, 0, 0), goes(0))
}

// TestLeaves has what is handed in left as it was.
func TestLeaves(t *testing.T) {
	jobs, l := two(), slices.Clone(done)
	trace.Check(jobs, l)
	trace.Owned(jobs, l, 0)
	trace.Ended(jobs, l, 1, 0)
	if !slices.Equal(l, done) || fmt.Sprint(jobs) != fmt.Sprint(two()) {
		t.Errorf("R5: %v, %v", jobs, l)
	}
}

// owns fails unless the node has so many cores behind the events.
func owns(t *testing.T, jobs []api.Job, node, want int, l ...world.Event) {
	t.Helper()
	if n := trace.Owned(jobs, l, node); n != want {
		t.Errorf("P21.3: Owned(%v, %d) = %d, want %d", l, node, n, want)
	}
}

func TestOwned(t *testing.T) {
	jobs := two()
	jobs[0].Steps[1] = api.Step{Ranks: 4, Per: 5}
	owns(t, nil, 0, 0)
	owns(t, jobs, 0, 0)
	for node := range 2 {
		owns(t, jobs, node, 0, up...)
		owns(t, jobs, node, 6, held...)
		owns(t, jobs, node, 6, runs...)
		owns(t, jobs, node, 0, done...)
	}
	owns(t, jobs, 2, 0, held...)
	h := did(rec.Held, 0, 0, 0)
	for _, over := range []int{rec.Aborted, rec.Ended} {
		x := did(over, 0, 0, 7)
		owns(t, jobs, 0, 0, h, x)
		owns(t, jobs, 0, 6, x, h)
		owns(t, jobs, 0, 6, h, x, h)
		owns(t, jobs, 0, 0, h, h, x)
		owns(t, jobs, 0, 6, h, did(over, 1, 0, 0))
		owns(t, jobs, 0, 6, h, did(over, 0, 1, 0))
		owns(t, jobs, 0, 6, behind([]world.Event{h}, in(1, x)...)...)
		owns(t, jobs, 0, 6, behind([]world.Event{h}, of(2, x)...)...)
	}
	owns(t, jobs, 0, 12, h, h)
	owns(t, jobs, 0, 26, h, did(rec.Held, 0, 1, 0))
	owns(t, jobs, 0, 6, h, did(rec.Held, 1, 1, 0))
	owns(t, jobs, 0, 18, slices.Concat([]world.Event{h}, in(1, h), of(2, h))...)
	for _, kind := range []int{rec.Prolog, rec.Refused, rec.Released, rec.Epilog, rec.Void, world.Goes, world.Code, -1, 8} {
		owns(t, jobs, 0, 6, h, did(kind, 0, 0, 0))
		owns(t, jobs, 0, 0, did(kind, 0, 0, 0))
	}
}

// TestOwnedOfWhatMayNotBeTold has steps held that may not be told.
func TestOwnedOfWhatMayNotBeTold(t *testing.T) {
	jobs, h := two(), did(rec.Held, 0, 0, 0)
	for _, n := range []int{least, -1, 0, 4, most} {
		owns(t, jobs, 0, 6, behind(of(n, h), h)...)
	}
	owns(t, jobs, 0, 0, of(3, h)...)
	owns(t, jobs, 2, 6, of(3, did(rec.Held, 2, 0, 0))...)
	for _, n := range []int{least, -1} {
		owns(t, jobs, 0, 0, in(n, h)...)
	}
	for _, n := range []int{least, -1, 2, most} {
		owns(t, jobs, 0, 0, did(rec.Held, 0, n, 0))
		owns(t, jobs, n, 0, did(rec.Held, n, 0, 0))
	}
	owns(t, nil, 0, 0, h)
}

// ends fails unless Ended tells that of the job.
func ends(t *testing.T, jobs []api.Job, job, epoch int, want bool, l ...world.Event) {
	t.Helper()
	if got := trace.Ended(jobs, l, job, epoch); got != want {
		t.Errorf("P21.3: Ended(%v, %d, %d) = %v", l, job, epoch, got)
	}
}

func TestEndedOf(t *testing.T) {
	jobs := two()
	for _, first := range []int{rec.Epilog, rec.Void} {
		for _, second := range []int{rec.Epilog, rec.Void} {
			a, b := did(first, 0, 3, 4), did(second, 1, 9, 0)
			ends(t, jobs, 1, 0, true, a, b)
			ends(t, jobs, 1, 0, true, b, up[0], a, a)
			ends(t, jobs, 1, 0, false, a)
			ends(t, jobs, 1, 0, false, b)
			ends(t, jobs, 1, 0, false, a, did(second, 0, 0, 0))
			ends(t, jobs, 1, 0, false, a, did(second, 2, 0, 0))
			ends(t, jobs, 1, 0, false, behind(of(2, b), a)...)
			ends(t, jobs, 1, 0, false, behind(in(1, b), a)...)
			ends(t, jobs, 1, 1, true, in(1, a, b)...)
			ends(t, jobs, 1, -1, true, in(-1, a, b)...)
			ends(t, jobs, 2, 0, true, of(2, a, b)...)
			ends(t, jobs, 2, 0, false, a, b)
			ends(t, jobs, 1, 1, false, a, b)
		}
	}
	for _, kind := range []int{rec.Prolog, rec.Held, rec.Refused, rec.Released, rec.Aborted, rec.Ended, world.Goes, world.Code, -1, 8} {
		ends(t, jobs, 1, 0, false, did(rec.Epilog, 0, 0, 0), did(kind, 1, 0, 0))
	}
	ends(t, jobs, 1, 0, false, done...)
	ends(t, jobs, 3, 0, true, of(3, did(rec.Void, 2, 0, 0))...)
	ends(t, jobs, 1, 0, false)
}

// TestEndedOfNoJob has no such job, and one without nodes.
func TestEndedOfNoJob(t *testing.T) {
	jobs := append(two(), on(nil, step()))
	for _, job := range []int{least, -1, 0, 5, most} {
		ends(t, jobs, job, 0, false)
		ends(t, jobs, job, 0, false, of(job, did(rec.Epilog, 0, 0, 0), did(rec.Epilog, 1, 0, 0))...)
		ends(t, nil, job, 0, false)
	}
	ends(t, jobs, 4, 0, true)
	ends(t, jobs, 4, 7, true)
}

// newWorld is a world of so many nodes.
func newWorld(t *testing.T, nodes int) *world.World {
	t.Helper()
	w, e := world.New(world.Config{Layouts: slices.Repeat([]cores.Layout{{Sockets: 1, Per: 8}}, nodes), Grace: 1})
	if e != api.OK {
		t.Fatalf("New: %d", e)
	}
	return w
}

// says has the controller say something to a node, though it did not.
func says(w *world.World, kind, node, job, step int) {
	w.Net().Send([]string{wire.Encode(api.Msg{Kind: kind, From: -1, To: node, Job: job, Step: step})})
	w.Do(world.Op{Do: 3, A: -1})
}

func TestWorld(t *testing.T) {
	if e := trace.World(nil); e != api.ErrArg {
		t.Errorf("P21.2: of nil: %d", e)
	}
	if e := trace.World(&world.World{}); e != api.OK {
		t.Errorf("P21.2: of the zero world: %d", e)
	}
	for _, c := range []struct {
		name string
		want api.Errno
		do   func(w *world.World)
	}{
		{"nothing", api.OK, func(w *world.World) {}},
		{"a prolog", api.OK, func(w *world.World) { says(w, api.MsgProlog, 0, 1, 0) }},
		{"a prolog of no job", api.ErrForm, func(w *world.World) { says(w, api.MsgProlog, 0, 2, 0) }},
		{"a prolog of another node", api.ErrForm, func(w *world.World) { says(w, api.MsgProlog, 1, 1, 0) }},
		{"a step refused", api.OK, func(w *world.World) { says(w, api.MsgProlog, 0, 1, 0); says(w, api.MsgAbort, 0, 1, 0) }},
		{"no step refused", api.ErrForm, func(w *world.World) { says(w, api.MsgProlog, 0, 1, 0); says(w, api.MsgAbort, 0, 1, 1) }},
		{"a prolog that was not seen", api.ErrState, func(w *world.World) {
			s := wire.Encode(api.Msg{Kind: api.MsgProlog, From: -1, Job: 1})
			w.Node(0).Deliver(s, agentChoice)
			says(w, api.MsgAbort, 0, 1, 0)
		}},
	} {
		w := newWorld(t, 2)
		if !w.Do(world.Op{J: api.Job{Nodes: []int{0}, Steps: []api.Step{{Ranks: 1, Per: 1, Limit: 4}}}}) {
			t.Fatal("nothing was submitted")
		}
		c.do(w)
		if e := trace.World(w); e != c.want {
			t.Errorf("P21.2: of %s: %d, want %d", c.name, e, c.want)
		}
	}
}
