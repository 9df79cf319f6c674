package rec_test

import (
	"slices"
	"testing"

	"roundhouse/api"
	"roundhouse/rec"
)

type dice uint64

func (d *dice) below(n int) int {
	*d = *d*6364136223846793005 + 1442695040888963407
	return int(uint64(*d) >> 33 % uint64(n))
}

// record throws one of few jobs, epochs and steps.
func (d *dice) record() api.Rec {
	// What makes a job end comes seldom, so that steps come to their ends ahead of it.
	kinds := []int{rec.Prolog, rec.Held, rec.Held, rec.Held, rec.Refused, rec.Released, rec.Released, rec.Released, rec.Released, rec.Aborted, rec.Ended, rec.Ended, rec.Ended, rec.Epilog, rec.Void}
	r := api.Rec{Kind: kinds[d.below(len(kinds))], Job: d.below(4), Epoch: d.below(3), Step: d.below(3)}
	if d.below(25) == 0 {
		r.Arg = 1 + d.below(255)
	}
	if r.Kind == rec.Ended {
		r.Arg = d.below(256)
	}
	if r.Kind == rec.Held {
		for range 1 + d.below(3) {
			r.List = append(r.List, 1+d.below(60))
		}
		slices.Sort(r.List)
		r.List = slices.Compact(r.List)
	}
	if d.below(40) == 0 {
		r.Arg = 256
	}
	return r
}

// past is the records that came, one behind the other: what is asked is looked up in them, by the document's words.
type past []api.Rec

// some says whether one of them is of one of the kinds, and like r in its job and epoch, and, if it is of a step, in that.
func (p past) some(r api.Rec, kinds ...int) bool {
	return slices.ContainsFunc(p, func(x api.Rec) bool {
		ofStep := x.Kind >= rec.Held && x.Kind <= rec.Ended
		return slices.Contains(kinds, x.Kind) && x.Job == r.Job && x.Epoch == r.Epoch && (!ofStep || x.Step == r.Step)
	})
}

// began says whether the job was there in its epoch, or in a later one.
func (p past) began(r api.Rec) bool {
	return slices.ContainsFunc(p, func(x api.Rec) bool {
		return (x.Kind == rec.Prolog || x.Kind == rec.Void) && x.Job == r.Job && x.Epoch >= r.Epoch
	})
}

func (p past) drained() bool {
	return slices.ContainsFunc(p, func(x api.Rec) bool { return (x.Kind == rec.Prolog || x.Kind == rec.Epilog) && x.Arg != 0 })
}

// isUp says whether the job had a prolog that was well, and no epilog.
func (p past) isUp(r api.Rec) bool {
	well := slices.ContainsFunc(p, func(x api.Rec) bool {
		return x.Kind == rec.Prolog && x.Job == r.Job && x.Epoch == r.Epoch && x.Arg == 0
	})
	return well && !p.some(r, rec.Epilog)
}

// lives says whether the step was held, and is neither aborted nor ended.
func (p past) lives(r api.Rec) bool {
	return p.some(r, rec.Held) && !p.some(r, rec.Aborted, rec.Ended)
}

// anyLives says whether one of the job's steps lives.
func (p past) anyLives(r api.Rec) bool {
	return slices.ContainsFunc(p, func(x api.Rec) bool {
		return x.Kind == rec.Held && x.Job == r.Job && x.Epoch == r.Epoch && p.lives(x)
	})
}

// hasPid says whether one of l was a Pid of a step.
func (p past) hasPid(l []int) bool {
	return slices.ContainsFunc(p, func(x api.Rec) bool {
		return slices.ContainsFunc(x.List, func(pid int) bool { return slices.Contains(l, pid) })
	})
}

// may says whether r may come, but for a drained node.
func (p past) may(r api.Rec) bool {
	switch r.Kind {
	case rec.Prolog, rec.Void:
		return !p.began(r)
	case rec.Held, rec.Refused:
		return p.isUp(r) && !p.some(r, rec.Held, rec.Refused) && !p.hasPid(r.List)
	case rec.Released, rec.Aborted:
		return p.lives(r) && !p.some(r, rec.Released)
	case rec.Ended:
		return p.lives(r) && p.some(r, rec.Released)
	}
	return p.some(r, rec.Prolog) && !p.some(r, rec.Epilog) && !p.anyLives(r)
}

func (p past) err(r api.Rec) api.Errno {
	switch {
	case r.Arg > 255:
		return api.ErrArg
	case !p.may(r):
		return api.ErrState
	case r.Kind == rec.Prolog && p.drained():
		return api.ErrDrained
	}
	return api.OK
}

// job is a job that was begun, or voided, by r.
func (p past) job(r api.Rec) rec.Job {
	j := rec.Job{Job: r.Job, Epoch: r.Epoch}
	switch {
	case r.Kind == rec.Void || p.some(r, rec.Epilog):
		j.Phase = 2
	case r.Arg != 0:
		j.Phase = 1
	}
	return j
}

// step is a step that was held, or refused, by r.
func (p past) step(r api.Rec) rec.Step {
	x := rec.Step{Job: r.Job, Epoch: r.Epoch, Step: r.Step, Pids: r.List}
	switch {
	case p.some(r, rec.Refused, rec.Aborted):
		x.Phase = 2
	case p.some(r, rec.Ended):
		at := slices.IndexFunc(p, func(e api.Rec) bool {
			return e.Kind == rec.Ended && e.Job == r.Job && e.Epoch == r.Epoch && e.Step == r.Step
		})
		x.Phase, x.Code = 3, p[at].Arg
	case p.some(r, rec.Released):
		x.Phase = 1
	}
	return x
}

func (p past) state() rec.State {
	s := rec.State{Drained: p.drained()}
	for _, r := range p {
		switch r.Kind {
		case rec.Prolog, rec.Void:
			s.Jobs = append(s.Jobs, p.job(r))
		case rec.Held, rec.Refused:
			s.Steps = append(s.Steps, p.step(r))
		}
	}
	return s
}

// looksLike checks what is asked of a state against what came.
func (p past) looksLike(t *testing.T, s rec.State) {
	t.Helper()
	for i := range 4 * 3 * 3 {
		r := api.Rec{Job: i / 9, Epoch: i / 3 % 3, Step: i % 3}
		if _, is := rec.Find(s, r.Job, r.Epoch); is != p.some(r, rec.Prolog, rec.Void) {
			t.Fatalf("P15.3: Find(%d, %d): %v", r.Job, r.Epoch, is)
		}
		if _, is := rec.StepOf(s, r.Job, r.Epoch, r.Step); is != p.some(r, rec.Held, rec.Refused) {
			t.Fatalf("P15.3: StepOf(%d, %d, %d): %v", r.Job, r.Epoch, r.Step, is)
		}
		if rec.Alive(s, r.Job, r.Epoch) != p.anyLives(r) {
			t.Fatalf("P15.3: Alive(%d, %d): %v", r.Job, r.Epoch, !p.anyLives(r))
		}
	}
}

// keepsRules fails if an aborted step was released, or an epilog is there twice.
func (p past) keepsRules(t *testing.T) {
	t.Helper()
	for i, r := range p {
		if r.Kind == rec.Released && p.some(r, rec.Aborted, rec.Refused) {
			t.Errorf("P15.4: %v was aborted, too", r)
		}
		if r.Kind == rec.Epilog && p[:i].some(r, rec.Epilog) {
			t.Errorf("P15.4: %v is there twice", r)
		}
	}
}

func TestWalks(t *testing.T) {
	d, seen := dice(15), [8]int{}
	errs := map[api.Errno]int{}
	for range 250 {
		s, p := rec.State{}, past{}
		for range 250 {
			r := d.record()
			want := p.err(r)
			next, e := rec.Apply(s, r)
			errs[e]++
			if e != want || e != api.OK && !same(next, s) {
				t.Fatalf("P15.2: %v, then %v: %v, %d, want %d", s, r, next, e, want)
			}
			tried := append(slices.Clone(p), r)
			if e == api.OK {
				p = tried
				seen[r.Kind]++
			}
			if !same(next, p.state()) {
				t.Fatalf("P15.2: %v, then %v: %v, want %v", s, r, next, p.state())
			}
			if folded, n := rec.Fold(tried); !same(folded, next) || n != len(p) {
				t.Fatalf("P15.3: Fold(%v) = %v, %d, want %v, %d", tried, folded, n, next, len(p))
			}
			s = next
		}
		p.looksLike(t, s)
		p.keepsRules(t)
	}
	if slices.Min(seen[:]) < 50 || errs[api.ErrDrained] < 50 || errs[api.ErrArg] < 50 {
		t.Errorf("some were seen only a few times: %v, %v", seen, errs)
	}
}
