package procs_test

import (
	"slices"
	"testing"

	"roundhouse/api"
	"roundhouse/procs"
)

// model goes by the document's words, with tasks in a row and their signals beside them.
type model struct {
	spawned int
	tasks   []api.Task
	signals []int
}

// at is where a task stands, or -1.
func (m *model) at(pid int) int {
	return slices.IndexFunc(m.tasks, func(x api.Task) bool { return x.Pid == pid })
}

func (m *model) spawn(x api.Task) (int, api.Errno) {
	if x.Job < 0 || len(x.Cores) == 0 {
		return 0, api.ErrArg
	}
	if len(m.tasks) == 256 {
		return 0, api.ErrFull
	}
	m.spawned++
	x.Pid = m.spawned
	m.tasks, m.signals = append(m.tasks, x), append(m.signals, 0)
	return x.Pid, api.OK
}

func (m *model) release(pid int) api.Errno {
	i := m.at(pid)
	if i < 0 {
		return api.ErrArg
	}
	if m.tasks[i].State != 0 {
		return api.ErrState
	}
	m.tasks[i].State = 1
	return api.OK
}

func (m *model) signal(pid, sig int) api.Errno {
	i := m.at(pid)
	if i < 0 || sig != 15 && sig != 9 {
		return api.ErrArg
	}
	if m.tasks[i].State == 2 {
		return api.ErrState
	}
	if m.tasks[i].State == 0 && sig == 9 {
		m.tasks[i].State, m.tasks[i].Code = 2, 137
	}
	order := []int{0, 15, 9}
	if slices.Index(order, sig) > slices.Index(order, m.signals[i]) {
		m.signals[i] = sig
	}
	return api.OK
}

func (m *model) exit(pid, code int) api.Errno {
	i := m.at(pid)
	if i < 0 || code < 0 || code > 255 {
		return api.ErrArg
	}
	if m.tasks[i].State != 1 {
		return api.ErrState
	}
	m.tasks[i].State, m.tasks[i].Code = 2, code
	return api.OK
}

func (m *model) reap(pid int) (api.Task, api.Errno) {
	i := m.at(pid)
	if i < 0 {
		return api.Task{}, api.ErrArg
	}
	if m.tasks[i].State != 2 {
		return api.Task{}, api.ErrState
	}
	x := m.tasks[i]
	m.tasks, m.signals = slices.Delete(m.tasks, i, i+1), slices.Delete(m.signals, i, i+1)
	return x, api.OK
}

// holds checks all that the table tells against the model.
func (m *model) holds(t *testing.T, p *procs.Table) {
	t.Helper()
	if l := p.List(); !slices.EqualFunc(l, m.tasks, same) {
		t.Fatalf("P12.1: List: %v, not %v", l, m.tasks)
	}
	for i, x := range m.tasks {
		if p.Signalled(x.Pid) != m.signals[i] {
			t.Fatalf("P12.2: Signalled(%d): %d, not %d", x.Pid, p.Signalled(x.Pid), m.signals[i])
		}
	}
}

// dice are numbers that look thrown, the same ones each time.
type dice uint64

func (d *dice) below(n int) int {
	*d = *d*6364136223846793005 + 1442695040888963407
	return int(uint64(*d) >> 33 % uint64(n))
}

// pid is mostly that of a task that is there.
func (d *dice) pid(m *model) int {
	if len(m.tasks) == 0 || d.below(6) == 0 {
		return d.below(m.spawned+3) - 1
	}
	return m.tasks[d.below(len(m.tasks))].Pid
}

// spawn is one that is thrown, in both.
func (d *dice) spawn(t *testing.T, p *procs.Table, m *model) api.Errno {
	t.Helper()
	x := api.Task{Job: d.below(9) - 1, Epoch: d.below(3), Step: d.below(4), Rank: d.below(5)}
	for c := range d.below(4) {
		x.Cores = append(x.Cores, 3*d.below(85)+c)
	}
	want, wantErr := m.spawn(x)
	spawns(t, p, x, want, wantErr)
	return wantErr
}

// step does one op that is thrown, in both.
func (d *dice) step(t *testing.T, p *procs.Table, m *model, seen map[api.Errno]int) {
	t.Helper()
	e := api.OK
	switch pid := d.pid(m); d.below(8) {
	case 0, 1:
		e = m.release(pid)
		answers(t, "P12.2: Release", p.Release(pid), e)
	case 2:
		sig := []int{15, 15, 9, 0, 1}[d.below(5)]
		e = m.signal(pid, sig)
		answers(t, "P12.2: Signal", p.Signal(pid, sig), e)
	case 3:
		code := d.below(260) - 2
		e = m.exit(pid, code)
		answers(t, "P12.3: Exit", p.Exit(pid, code), e)
	case 4:
		var want api.Task
		want, e = m.reap(pid)
		reaps(t, p, pid, want, e)
	default:
		e = d.spawn(t, p, m)
	}
	seen[e]++
	m.holds(t, p)
}

func TestWalks(t *testing.T) {
	d := dice(11)
	seen := map[api.Errno]int{}
	for range 4 {
		p, m := procs.New(), &model{}
		for i := range 1500 {
			d.step(t, p, m, seen)
			if i%100 == 0 { // a copy goes on as the table would have
				p = p.Copy()
			}
		}
	}
	for _, e := range []api.Errno{api.OK, api.ErrArg, api.ErrFull, api.ErrState} {
		if seen[e] < 100 {
			t.Errorf("error %d was seen %d times only", e, seen[e])
		}
	}
}

// Whatever is called, a Pid is told once, and nobody runs that was not released.
func TestToldOnceAndReleased(t *testing.T) {
	d := dice(13)
	p, m := procs.New(), &model{}
	told, released := map[int]int{}, map[int]int{}
	for range 4000 {
		pid := d.pid(m)
		switch d.below(5) {
		case 0:
			if p.Release(pid) == api.OK {
				released[pid]++
			}
		case 1:
			p.Signal(pid, []int{15, 9}[d.below(2)])
		case 2:
			p.Exit(pid, 0)
		case 3:
			p.Reap(pid)
		default:
			if n, e := p.Spawn(on(1)); e == api.OK {
				told[n]++
				m.spawned = n
			}
		}
		m.tasks = p.List()
		for _, x := range m.tasks {
			if told[x.Pid] != 1 || x.State == api.Running && released[x.Pid] != 1 {
				t.Fatalf("P12.4: %v was told %d times, released %d times", x, told[x.Pid], released[x.Pid])
			}
		}
	}
	if len(told) < 500 || len(released) < 100 {
		t.Errorf("%d were told, %d released", len(told), len(released))
	}
}
