package trace_test

import (
	"slices"
	"testing"

	"roundhouse/api"
	"roundhouse/rec"
	"roundhouse/trace"
	"roundhouse/world"
)

// model is the document's words of one event, at a place: it goes through all that stands ahead of it, each time.
type model struct {
	jobs []api.Job
	past []world.Event
	world.Event
}

// find is those of the past of that kind, of the same job and epoch, and, where these are not any, of a node and a step.
func (m model) find(kind int, node, step *int) []world.Event {
	var l []world.Event
	for _, x := range m.past {
		if x.Kind == kind && x.Job == m.Job && x.Epoch == m.Epoch && (node == nil || x.Node == *node) && (step == nil || x.Step == *step) {
			l = append(l, x)
		}
	}
	return l
}

func (m model) onNode(kind int) bool { return len(m.find(kind, &m.Node, nil)) > 0 }
func (m model) here(kind int) bool   { return len(m.find(kind, &m.Node, &m.Step)) > 0 }
func (m model) ofStep(kind int) bool { return len(m.find(kind, nil, &m.Step)) > 0 }

// told says whether the event may be told.
func (m model) told() bool {
	if m.Job <= 0 || m.Job > len(m.jobs) || m.Epoch < 0 {
		return false
	}
	job := m.jobs[m.Job-1]
	node := false
	for _, n := range job.Nodes {
		node = node || n == m.Node
	}
	hasStep := m.Step >= 0 && m.Step < len(job.Steps)
	switch m.Kind {
	case 0, 6, 7:
		return node
	case 1, 2, 3, 4, 5:
		return node && hasStep
	case 10, 11:
		return m.Node == -1 && hasStep
	}
	return false
}

// code is what Code told of a step; Open, if it did not.
func (m model) code(step int) int {
	if l := m.find(world.Code, nil, &step); len(l) > 0 {
		return l[0].Arg
	}
	return -1
}

// may says whether the event, which may be told, may be.
func (m model) may() bool {
	job := m.jobs[m.Job-1]
	switch m.Kind {
	case rec.Prolog, rec.Void:
		return !m.onNode(rec.Prolog) && !m.onNode(rec.Void)
	case rec.Held, rec.Refused:
		l := m.find(rec.Prolog, &m.Node, nil)
		up := slices.ContainsFunc(l, func(x world.Event) bool { return x.Arg == 0 })
		return up && !m.onNode(rec.Epilog) && !m.here(rec.Held) && !m.here(rec.Refused) && (m.Kind == rec.Held || !m.ofStep(world.Goes))
	case rec.Released:
		return m.here(rec.Held) && !m.here(rec.Released) && !m.here(rec.Aborted) && m.ofStep(world.Goes)
	case rec.Aborted:
		return m.here(rec.Held) && !m.here(rec.Released) && !m.here(rec.Aborted) && !m.ofStep(world.Goes)
	case rec.Ended:
		return m.here(rec.Released) && !m.here(rec.Ended)
	case rec.Epilog:
		for _, x := range m.find(rec.Held, &m.Node, nil) {
			if len(m.find(rec.Aborted, &m.Node, &x.Step))+len(m.find(rec.Ended, &m.Node, &x.Step)) == 0 {
				return false
			}
		}
		return m.onNode(rec.Prolog) && !m.onNode(rec.Epilog)
	case world.Goes:
		for _, n := range job.Nodes {
			if len(m.find(rec.Held, &n, &m.Step)) == 0 {
				return false
			}
		}
		for _, x := range job.Steps[m.Step].After {
			c := m.code(x.Step)
			if x.Kind == 0 && c != 0 || x.Kind == 1 && c == -1 || x.Kind != 0 && x.Kind != 1 && (c < 1 || c > 255) {
				return false
			}
		}
		return !m.ofStep(world.Goes) && !m.ofStep(world.Code)
	}
	if m.ofStep(world.Code) {
		return false
	}
	if !m.ofStep(world.Goes) {
		return m.Arg == 255 || m.Arg == 256
	}
	var codes []int
	for _, n := range job.Nodes {
		l := m.find(rec.Ended, &n, &m.Step)
		if len(l) == 0 {
			return false
		}
		codes = append(codes, l[0].Arg)
	}
	if len(codes) == 0 {
		return m.Arg == 0
	}
	slices.Sort(codes)
	return m.Arg == codes[len(codes)-1]
}

// modelCheck is Check, by the model.
func modelCheck(jobs []api.Job, l []world.Event) (int, api.Errno) {
	for i, e := range l {
		switch m := (model{jobs, l[:i], e}); {
		case !m.told():
			return i, api.ErrForm
		case !m.may():
			return i, api.ErrState
		}
	}
	return len(l), api.OK
}

// modelOwned is Owned, by the model.
func modelOwned(jobs []api.Job, l []world.Event, node int) int {
	n := 0
	for i, e := range l {
		if e.Kind != rec.Held || e.Node != node || !(model{jobs, l[:i], e}).told() {
			continue
		}
		m := model{jobs, l[i+1:], e}
		if !m.here(rec.Aborted) && !m.here(rec.Ended) {
			n += jobs[e.Job-1].Steps[e.Step].Ranks * jobs[e.Job-1].Steps[e.Step].Per
		}
	}
	return n
}

// modelEnded is Ended, by the model.
func modelEnded(jobs []api.Job, l []world.Event, job, epoch int) bool {
	if job <= 0 || job > len(jobs) {
		return false
	}
	for _, n := range jobs[job-1].Nodes {
		m := model{jobs, l, world.Event{Node: n, Job: job, Epoch: epoch}}
		if !m.onNode(rec.Epilog) && !m.onNode(rec.Void) {
			return false
		}
	}
	return true
}

// asModel fails unless the program tells of the events what the model tells; it is what Check tells.
func asModel(t *testing.T, jobs []api.Job, l []world.Event) (int, api.Errno) {
	t.Helper()
	n, e := trace.Check(jobs, l)
	if want, f := modelCheck(jobs, l); n != want || e != f {
		t.Fatalf("P21.1: Check(%v, %v) = %d, %d, want %d, %d", jobs, l, n, e, want, f)
	}
	for node := -2; node < 4; node++ {
		if got, want := trace.Owned(jobs, l, node), modelOwned(jobs, l, node); got != want {
			t.Fatalf("P21.3: Owned(%v, %v, %d) = %d, want %d", jobs, l, node, got, want)
		}
	}
	for job := range len(jobs) + 2 {
		for epoch := range 2 {
			if got := trace.Ended(jobs, l, job, epoch); got != modelEnded(jobs, l, job, epoch) {
				t.Fatalf("P21.3: Ended(%v, %v, %d, %d) = %v", jobs, l, job, epoch, got)
			}
		}
	}
	return n, e
}

type dice uint64

func (d *dice) below(n int) int {
	*d = *d*6364136223846793005 + 1442695040888963407
	return int(uint64(*d) >> 33 % uint64(n))
}

// oneOf is one of l.
func (d *dice) oneOf(l ...int) int { return l[d.below(len(l))] }

// oddJobs throws jobs of few nodes and steps; some are none that a controller would take.
func (d *dice) oddJobs() []api.Job {
	var jobs []api.Job
	for range 1 + d.below(2) {
		var j api.Job
		for range d.oneOf(0, 1, 1, 1, 1, 2, 2, 2, 3) {
			j.Nodes = append(j.Nodes, d.oneOf(0, 0, 1, 1, 2, 2, -1))
		}
		for i := range d.oneOf(0, 1, 2, 2, 3) {
			s := api.Step{Ranks: d.below(4), Per: d.below(4)}
			for range d.oneOf(0, 1, 1, 2) * min(i, 1) {
				s.After = append(s.After, api.Edge{Step: d.oneOf(0, 0, 0, 0, 0, 0, 1, i, 7), Kind: d.oneOf(0, 1, 1, 2, 3)})
			}
			j.Steps = append(j.Steps, s)
		}
		jobs = append(jobs, j)
	}
	return jobs
}

// oddEvent throws one of the jobs mostly, which may be told mostly.
func (d *dice) oddEvent(jobs []api.Job) world.Event {
	e := world.Event{
		Kind: d.oneOf(0, 0, 0, 1, 1, 1, 1, 3, 3, 5, 5, 10, 10, 10, 11, 11), Job: 1 + d.below(len(jobs)), Epoch: d.oneOf(0, 0, 0, 0, 0, 0, 1),
		Node: d.oneOf(0, 1, 2), Step: d.below(3), Arg: d.oneOf(0, 0, 0, 0, 0, 0, 1, 2, 255, 256, -1, -2),
	}
	if d.below(12) == 0 {
		e.Kind = d.oneOf(2, 4, 6, 7)
	}
	if l := jobs[e.Job-1].Nodes; len(l) > 0 {
		e.Node = l[d.below(len(l))]
	}
	if e.Kind >= 10 {
		e.Node = -1
	}
	switch d.below(60) {
	case 0:
		e.Kind = d.oneOf(-1, 8, 9, 12)
	case 1:
		e.Job = d.oneOf(-1, 0, len(jobs)+1)
	case 2:
		e.Epoch = -1
	case 3:
		e.Node = d.oneOf(-1, 0, 3)
	case 4:
		e.Step = d.oneOf(-1, 3)
	}
	return e
}

// TestGrown has lists grow by whatever may be, and holds what may not be against the model, too.
func TestGrown(t *testing.T) {
	may, not := map[int]int{}, map[int]int{}
	for seed := range 400 {
		d := dice(seed)
		jobs := d.oddJobs()
		var l []world.Event
		for range 200 {
			e := d.oddEvent(jobs)
			n, why := asModel(t, jobs, append(slices.Clone(l), e))
			switch {
			case why == api.OK:
				l = append(l, e)
				may[e.Kind]++
			case n != len(l):
				t.Fatalf("P21.1: Check(%v, %v) = %d, %d", jobs, l, n, why)
			case why == api.ErrState:
				not[e.Kind]++
			}
		}
	}
	for _, kind := range []int{0, 1, 2, 3, 4, 5, 6, 7, world.Goes, world.Code} {
		if may[kind] < 50 || not[kind] < 50 {
			t.Errorf("of kind %d %d may be, and %d not", kind, may[kind], not[kind])
		}
	}
}

// TestWhatever has lists of whatever comes.
func TestWhatever(t *testing.T) {
	for seed := range 2000 {
		d := dice(5000 + seed)
		jobs := d.oddJobs()
		var l []world.Event
		for range d.below(25) {
			l = append(l, d.oddEvent(jobs))
		}
		asModel(t, jobs, l)
	}
}
