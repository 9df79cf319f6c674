package rec_test

import (
	"slices"
	"testing"

	"roundhouse/api"
	"roundhouse/rec"
)

func sameStep(a, b rec.Step) bool {
	return a.Job == b.Job && a.Epoch == b.Epoch && a.Step == b.Step && a.Phase == b.Phase && a.Code == b.Code && slices.Equal(a.Pids, b.Pids)
}

func same(a, b rec.State) bool {
	return slices.Equal(a.Jobs, b.Jobs) && slices.EqualFunc(a.Steps, b.Steps, sameStep) && a.Drained == b.Drained
}

// copied is a state that has nothing in common with s.
func copied(s rec.State) rec.State {
	s.Jobs, s.Steps = slices.Clone(s.Jobs), slices.Clone(s.Steps)
	for i := range s.Steps {
		s.Steps[i].Pids = slices.Clone(s.Steps[i].Pids)
	}
	return s
}

// comes fails unless r comes behind s with that error, and the state is that one then.
func comes(t *testing.T, s rec.State, r api.Rec, want rec.State, wantErr api.Errno) {
	t.Helper()
	was := copied(s)
	got, e := rec.Apply(s, r)
	if e != wantErr || !same(got, want) {
		t.Errorf("P15.2: %v, then %v: %v, %d, want %v, %d", was, r, got, e, want, wantErr)
	}
	if !same(s, was) {
		t.Errorf("R5: %v, then %v: it is %v now", was, r, s)
	}
}

// refuses fails unless r does not come behind s.
func refuses(t *testing.T, s rec.State, r api.Rec, want api.Errno) {
	t.Helper()
	comes(t, s, r, s, want)
}

// state has job 5 of epoch 2 in a phase, and its step 3 in one (-1: it is not there), among others that are none of these.
func state(job, step int, drained bool) rec.State {
	s := rec.State{
		Jobs:    []rec.Job{{Job: 6, Epoch: 3}, {Job: 5, Epoch: 1, Phase: rec.JobUp}},
		Steps:   []rec.Step{{Job: 6, Epoch: 2, Step: 3, Pids: []int{1}}, {Job: 5, Epoch: 1, Step: 3, Phase: rec.StepRuns, Pids: []int{2}}},
		Drained: drained,
	}
	if job >= 0 {
		s.Jobs = append(s.Jobs, rec.Job{Job: 5, Epoch: 2, Phase: job})
	}
	if step >= 0 {
		s.Steps = append(s.Steps, rec.Step{Job: 5, Epoch: 2, Step: 3, Phase: step, Pids: []int{3, 4}})
	}
	return s
}

// of is a record of that kind, of job 5, epoch 2, step 3.
func of(kind, arg int, list ...int) api.Rec {
	return api.Rec{Kind: kind, Job: 5, Epoch: 2, Step: 3, Arg: arg, List: list}
}

// may is where a record of a kind may come: the phases of its job, and of its step.
var may = [8]struct{ jobs, steps []int }{
	rec.Prolog:   {[]int{-1}, []int{-1, 0, 1, 2, 3}},
	rec.Held:     {[]int{rec.JobUp}, []int{-1}},
	rec.Refused:  {[]int{rec.JobUp}, []int{-1}},
	rec.Released: {[]int{-1, 0, 1, 2}, []int{rec.StepHeld}},
	rec.Aborted:  {[]int{-1, 0, 1, 2}, []int{rec.StepHeld}},
	rec.Ended:    {[]int{-1, 0, 1, 2}, []int{rec.StepRuns}},
	rec.Epilog:   {[]int{rec.JobUp, rec.JobFailed}, []int{-1, rec.StepAborted, rec.StepEnded}},
	rec.Void:     {[]int{-1}, []int{-1, 0, 1, 2, 3}},
}

// behind is state(job, step, drained) behind a record that may come.
func behind(kind, arg, job, step int, drained bool) rec.State {
	s := state(job, step, drained)
	last := len(s.Steps) - 1
	switch kind {
	case rec.Prolog:
		phase := rec.JobUp
		if arg != 0 {
			phase = rec.JobFailed
			s.Drained = true
		}
		s.Jobs = append(s.Jobs, rec.Job{Job: 5, Epoch: 2, Phase: phase})
	case rec.Held:
		s.Steps = append(s.Steps, rec.Step{Job: 5, Epoch: 2, Step: 3, Phase: rec.StepHeld, Pids: []int{7, 9}})
	case rec.Refused:
		s.Steps = append(s.Steps, rec.Step{Job: 5, Epoch: 2, Step: 3, Phase: rec.StepAborted})
	case rec.Released:
		s.Steps[last].Phase = rec.StepRuns
	case rec.Aborted:
		s.Steps[last].Phase = rec.StepAborted
	case rec.Ended:
		s.Steps[last].Phase, s.Steps[last].Code = rec.StepEnded, arg
	case rec.Epilog:
		s.Jobs[2].Phase = rec.JobGone
		s.Drained = drained || arg != 0
	case rec.Void:
		s.Jobs = append(s.Jobs, rec.Job{Job: 5, Epoch: 2, Phase: rec.JobGone})
	}
	return s
}

// TestApply has each kind, with each Arg that counts, at each phase of its job and its step.
func TestApply(t *testing.T) {
	for i := range 8 * 3 * 4 * 5 * 2 {
		kind, arg, job, step, drained := i%8, []int{0, 1, 255}[i/8%3], i/24%4-1, i/96%5-1, i/480 == 1
		s, r := state(job, step, drained), of(kind, arg)
		if kind == rec.Held {
			r.List = []int{7, 9}
		}
		switch {
		case !slices.Contains(may[kind].jobs, job) || !slices.Contains(may[kind].steps, step):
			refuses(t, s, r, api.ErrState)
		case kind == rec.Prolog && drained:
			refuses(t, s, r, api.ErrDrained)
		default:
			comes(t, s, r, behind(kind, arg, job, step, drained), api.OK)
		}
	}
}

// TestEpochs has a job begin, or voided, where there are others of it.
func TestEpochs(t *testing.T) {
	for _, kind := range []int{rec.Prolog, rec.Void} {
		for _, phase := range []int{rec.JobUp, rec.JobFailed, rec.JobGone} {
			others := rec.State{Jobs: []rec.Job{{Job: 5, Epoch: 7, Phase: phase}, {Job: 5, Epoch: 4}, {Job: 8, Epoch: 40}, {Job: 0, Epoch: 90}}}
			for epoch := range 12 {
				r := api.Rec{Kind: kind, Job: 5, Epoch: epoch}
				if epoch <= 7 {
					refuses(t, others, r, api.ErrState)
					continue
				}
				want := copied(others)
				want.Jobs = append(want.Jobs, rec.Job{Job: 5, Epoch: epoch, Phase: map[int]int{rec.Prolog: rec.JobUp, rec.Void: rec.JobGone}[kind]})
				comes(t, others, r, want, api.OK)
			}
			// Of two errors it is ErrState that is told.
			others.Drained = true
			refuses(t, others, api.Rec{Kind: kind, Job: 5, Epoch: 6}, api.ErrState)
		}
	}
}

// TestItsOwn has records that are of another job, epoch or step than there is.
func TestItsOwn(t *testing.T) {
	held, runs := state(rec.JobUp, rec.StepHeld, false), state(rec.JobUp, rec.StepRuns, false)
	for _, r := range []api.Rec{{Job: 4, Epoch: 2, Step: 3}, {Job: 5, Epoch: 3, Step: 3}, {Job: 5, Epoch: 0, Step: 3}, {Job: 5, Epoch: 2, Step: 2}, {Job: 5, Epoch: 2, Step: 4}, {}} {
		for _, kind := range []int{rec.Released, rec.Aborted, rec.Ended} {
			r.Kind = kind
			refuses(t, held, r, api.ErrState)
			refuses(t, runs, r, api.ErrState)
		}
	}
	refuses(t, rec.State{}, of(rec.Held, 0, 1), api.ErrState)
	refuses(t, rec.State{}, of(rec.Refused, 0), api.ErrState)
	refuses(t, rec.State{}, of(rec.Epilog, 0), api.ErrState)
	refuses(t, rec.State{Jobs: []rec.Job{{Job: 5, Epoch: 1}}}, of(rec.Epilog, 0), api.ErrState)
	refuses(t, rec.State{Jobs: []rec.Job{{Job: 5, Epoch: 3}}}, of(rec.Held, 0, 1), api.ErrState)
	refuses(t, rec.State{Jobs: []rec.Job{{Job: 4, Epoch: 2}}}, of(rec.Refused, 0), api.ErrState)
	// Another job's step that lives, or another epoch's, is no hindrance to the epilog.
	comes(t, state(rec.JobUp, -1, false), of(rec.Epilog, 0), behind(rec.Epilog, 0, rec.JobUp, -1, false), api.OK)
}

// TestPids has a step held by Pids that others have, or had.
func TestPids(t *testing.T) {
	for phase := range 4 {
		s := state(rec.JobUp, phase, false)
		s.Steps[2].Pids = []int{90, 40, 60}
		for _, l := range [][]int{{1}, {2}, {40}, {60}, {90}, {5, 40}, {90, 91}, {39, 60, 91}, {1, 2}, upTo(256)} {
			refuses(t, s, api.Rec{Kind: rec.Held, Job: 5, Epoch: 2, Step: 9, List: l}, api.ErrState)
			refuses(t, s, api.Rec{Kind: rec.Held, Job: 6, Epoch: 3, Step: 3, List: l}, api.ErrState)
		}
		for _, l := range [][]int{{3}, {39, 41}, {most}, {91, 100, 1000}, {50}} {
			want := copied(s)
			want.Steps = append(want.Steps, rec.Step{Job: 6, Epoch: 3, Step: 3, Pids: l})
			comes(t, s, api.Rec{Kind: rec.Held, Job: 6, Epoch: 3, Step: 3, List: l}, want, api.OK)
		}
	}
}

// TestSeveral has a state in which jobs and steps are there more than once: the first one is it.
func TestSeveral(t *testing.T) {
	s := rec.State{
		Jobs:  []rec.Job{{Job: 1, Phase: rec.JobGone}, {Job: 1, Phase: rec.JobUp}, {Job: 2, Phase: rec.JobFailed}, {Job: 2, Phase: rec.JobGone}},
		Steps: []rec.Step{{Job: 1, Phase: rec.StepRuns, Pids: []int{1}}, {Job: 1, Phase: rec.StepHeld, Pids: []int{2}}, {Job: 2, Phase: rec.StepEnded}, {Job: 3, Phase: rec.StepEnded}, {Job: 3, Phase: rec.StepRuns}},
	}
	refuses(t, s, api.Rec{Kind: rec.Refused, Job: 1, Step: 5}, api.ErrState)
	refuses(t, s, api.Rec{Kind: rec.Released, Job: 1}, api.ErrState)
	want := copied(s)
	want.Steps[0].Phase, want.Steps[0].Code = rec.StepEnded, 9
	comes(t, s, api.Rec{Kind: rec.Ended, Job: 1, Arg: 9}, want, api.OK)
	want = copied(s)
	want.Jobs[2].Phase = rec.JobGone
	comes(t, s, api.Rec{Kind: rec.Epilog, Job: 2}, want, api.OK)

	if j, is := rec.Find(s, 1, 0); !is || j != s.Jobs[0] {
		t.Errorf("P15.3: Find = %v, %v", j, is)
	}
	if x, is := rec.StepOf(s, 1, 0, 0); !is || !sameStep(x, s.Steps[0]) {
		t.Errorf("P15.3: StepOf = %v, %v", x, is)
	}
	if !rec.Alive(s, 3, 0) {
		t.Error("P15.3: a later one of several lives")
	}
}

func TestFind(t *testing.T) {
	s := state(rec.JobFailed, rec.StepEnded, false)
	s.Steps[2].Code = 77
	for i := range 10 * 5 * 5 {
		job, epoch, step := i%10-1, i/10%5-1, i/50
		at := slices.IndexFunc(s.Jobs, func(x rec.Job) bool { return x.Job == job && x.Epoch == epoch })
		if j, is := rec.Find(s, job, epoch); is != (at >= 0) || is && j != s.Jobs[at] || !is && j != (rec.Job{}) {
			t.Errorf("P15.3: Find(%d, %d) = %v, %v", job, epoch, j, is)
		}
		at = slices.IndexFunc(s.Steps, func(x rec.Step) bool { return x.Job == job && x.Epoch == epoch && x.Step == step })
		if x, is := rec.StepOf(s, job, epoch, step); is != (at >= 0) || is && !sameStep(x, s.Steps[at]) || !is && !sameStep(x, rec.Step{}) {
			t.Errorf("P15.3: StepOf(%d, %d, %d) = %v, %v", job, epoch, step, x, is)
		}
	}
	if _, is := rec.Find(rec.State{}, 0, 0); is {
		t.Error("P15.3: Find of nothing")
	}
	if _, is := rec.StepOf(rec.State{}, 0, 0, 0); is {
		t.Error("P15.3: StepOf of nothing")
	}
}

func TestAlive(t *testing.T) {
	for phase, want := range []bool{rec.StepHeld: true, rec.StepRuns: true, rec.StepAborted: false, rec.StepEnded: false, 4: false} {
		s := rec.State{Jobs: []rec.Job{{Job: 5, Epoch: 2}}, Steps: []rec.Step{{Job: 5, Epoch: 2, Step: 1, Phase: rec.StepEnded}, {Job: 5, Epoch: 2, Step: 3, Phase: phase}, {Job: 5, Epoch: 2, Step: 4, Phase: rec.StepAborted}}}
		if rec.Alive(s, 5, 2) != want {
			t.Errorf("P15.3: Alive of phase %d is %v", phase, !want)
		}
		if rec.Alive(s, 5, 1) || rec.Alive(s, 4, 2) || rec.Alive(s, 2, 5) {
			t.Errorf("P15.3: phase %d: others live", phase)
		}
	}
	if rec.Alive(rec.State{}, 0, 0) || rec.Alive(rec.State{Jobs: []rec.Job{{}}}, 0, 0) {
		t.Error("P15.3: nothing lives")
	}
}

func TestFold(t *testing.T) {
	l := []api.Rec{{Job: 1, Epoch: 2}, {Kind: rec.Held, Job: 1, Epoch: 2, List: []int{4, 6}}, {Kind: rec.Released, Job: 1, Epoch: 2}, {Kind: rec.Ended, Job: 1, Epoch: 2, Arg: 8}, {Kind: rec.Epilog, Job: 1, Epoch: 2, Arg: 1}, {Kind: rec.Void, Job: 3}}
	want := rec.State{Jobs: []rec.Job{{1, 2, rec.JobGone}, {3, 0, rec.JobGone}}, Steps: []rec.Step{{1, 2, 0, rec.StepEnded, 8, []int{4, 6}}}, Drained: true}
	if s, n := rec.Fold(l); n != 6 || !same(s, want) {
		t.Errorf("P15.3: Fold = %v, %d, want %v", s, n, want)
	}
	// A record that may not come ends it, though those behind it might come.
	for n := range l {
		ahead, _ := rec.Fold(l[:n])
		for _, wrong := range []api.Rec{{Kind: 9}, {Kind: rec.Released, Job: 9}, {Job: 1, Epoch: 1}} {
			if n == 0 && wrong.Job == 1 {
				continue
			}
			s, got := rec.Fold(slices.Insert(slices.Clone(l), n, wrong))
			if got != n || !same(s, ahead) {
				t.Errorf("P15.3: Fold with %v at %d = %v, %d, want %v", wrong, n, s, got, ahead)
			}
		}
	}
	for _, l := range [][]api.Rec{nil, {}} {
		if s, n := rec.Fold(l); n != 0 || !same(s, rec.State{}) {
			t.Errorf("P15.3: Fold of nothing = %v, %d", s, n)
		}
	}
}

// spoil writes over all that s has.
func spoil(s rec.State) {
	for i := range s.Jobs {
		s.Jobs[i] = rec.Job{Job: 99, Epoch: 99, Phase: 99}
	}
	for i := range s.Steps {
		for j := range s.Steps[i].Pids {
			s.Steps[i].Pids[j] = 99
		}
		s.Steps[i] = rec.Step{Job: 99, Step: 99}
	}
}

// TestApart asks whether what is handed in and what is answered have memory of their own, with an error and without one.
func TestApart(t *testing.T) {
	for _, r := range []api.Rec{of(rec.Released, 0), of(rec.Ended, 0), of(rec.Epilog, 0), {Job: 1}, {Kind: rec.Void, Job: 1}, {Kind: rec.Held, Job: 5, Epoch: 2, Step: 9, List: []int{7}}, {Kind: 9}} {
		s := state(rec.JobUp, rec.StepHeld, false)
		s.Jobs, s.Steps = slices.Grow(s.Jobs, 9), slices.Grow(s.Steps, 9)
		was := copied(s)
		first, _ := rec.Apply(s, r)
		want := copied(first)
		// Another record behind the same state must not be written into the room behind its lists.
		rec.Apply(s, api.Rec{Job: 77})
		rec.Apply(s, api.Rec{Kind: rec.Refused, Job: 5, Epoch: 2, Step: 77})
		if !same(first, want) || !same(s, was) {
			t.Errorf("R5: %v: %v, %v", r, first, s)
		}
		spoil(first)
		if !same(s, was) {
			t.Errorf("R5: %v: what is answered is that which was handed in: %v", r, s)
		}
		again, _ := rec.Apply(s, r)
		spoil(s)
		if !same(again, want) {
			t.Errorf("R5: %v: what was handed in is kept: %v", r, again)
		}
	}
}

func TestPidsApart(t *testing.T) {
	pids := []int{3, 4}
	held := api.Rec{Kind: rec.Held, List: pids}
	s, _ := rec.Apply(rec.State{Jobs: []rec.Job{{}}}, held)
	folded, _ := rec.Fold([]api.Rec{{}, held})
	pids[0] = 9
	for _, s := range []rec.State{s, folded} {
		x, _ := rec.StepOf(s, 0, 0, 0)
		if !slices.Equal(x.Pids, []int{3, 4}) {
			t.Errorf("R5: a record's list is kept: %v", x)
		}
		x.Pids[0] = 9
		if y, _ := rec.StepOf(s, 0, 0, 0); !slices.Equal(y.Pids, []int{3, 4}) {
			t.Errorf("R5: what StepOf answers is the state's: %v", y)
		}
	}
}
