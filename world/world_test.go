package world_test

import (
	"fmt"
	"math"
	"slices"
	"testing"

	"roundhouse/agent"
	"roundhouse/api"
	"roundhouse/cores"
	"roundhouse/cred"
	"roundhouse/rec"
	"roundhouse/wire"
	"roundhouse/world"
)

const (
	least = math.MinInt
	most  = math.MaxInt
)

// What a script may choose, by an op's Do.
const (
	submit = iota
	tick
	send
	deliver
	tear
	drop
	twice
	exit
	cut
	crash
	bringUp
	cancel
)

// config is that of so many nodes, of eight cores each.
func config(nodes int) world.Config {
	return world.Config{Layouts: slices.Repeat([]cores.Layout{{Sockets: 2, Per: 4}}, nodes), Key: "k", Grace: 2, Kill: 1}
}

// step is one of two ranks, behind those that its edges name.
func step(after ...api.Edge) api.Step {
	return api.Step{Ranks: 2, Per: 1, Limit: 4, After: after}
}

// on is a job on nodes.
func on(nodes []int, steps ...api.Step) api.Job { return api.Job{Nodes: nodes, Steps: steps} }

// stage is a world that is tried, and how many of its events were looked at.
type stage struct {
	*testing.T
	*world.World
	seen int
}

// newStage is one with jobs.
func newStage(t *testing.T, c world.Config, jobs ...api.Job) *stage {
	t.Helper()
	w, e := world.New(c)
	if w == nil || e != api.OK {
		t.Fatalf("P20.1: New(%v) = %v, %d", c, w, e)
	}
	s := &stage{t, w, 0}
	for _, j := range jobs {
		s.does(true, world.Op{Do: submit, J: j})
	}
	return s
}

// does fails unless something is done by each op, or by none.
func (s *stage) does(want bool, ops ...world.Op) {
	s.Helper()
	for _, o := range ops {
		if got := s.Do(o); got != want {
			s.Errorf("P20.2: Do(%v) = %v", o, got)
		}
	}
}

// do does an op so many times.
func (s *stage) do(times int, o world.Op) {
	s.Helper()
	s.does(true, slices.Repeat([]world.Op{o}, times)...)
}

// rounds sends so many times, and each time delivers till nothing is on its way.
func (s *stage) rounds(n int) {
	s.Helper()
	for range n {
		s.does(true, world.Op{Do: send})
		for s.Do(world.Op{Do: deliver}) {
		}
	}
}

// has fails unless just these messages are on their way; the texts of launches are not held against anything.
func (s *stage) has(want ...api.Msg) {
	s.Helper()
	var got []api.Msg
	for _, x := range s.Net().List() {
		m, _ := wire.Decode(x)
		m.Text = ""
		got = append(got, m)
	}
	if !slices.Equal(got, want) {
		s.Errorf("P20.2: on their way: %v, want %v", got, want)
	}
}

// sees fails unless just these events are new.
func (s *stage) sees(want ...world.Event) {
	s.Helper()
	l := s.Events()
	if got := l[s.seen:]; !slices.Equal(got, want) {
		s.Errorf("P20.3: seen was %v, want %v", got, want)
	}
	s.seen = len(l)
}

// all is what can be told of a world, as a text.
func all(w *world.World) string {
	out := fmt.Sprint(w.Now(), w.Nodes(), w.Events(), w.Given(), w.Net().Lost())
	for i := range w.Nodes() {
		a := w.Node(i)
		out += fmt.Sprintf("%v %v %v %v %v %q", a.Down(), a.Now(), a.State(), a.Tasks(), a.Free(), a.Log())
		for _, x := range a.Tasks() {
			out += fmt.Sprint(a.Signalled(x.Pid), ",")
		}
		for id := range w.Given() {
			out += fmt.Sprint(a.Ticks(id+1), ",")
		}
	}
	for id := range w.Ctl().Jobs() {
		j, _ := w.Ctl().Job(id + 1)
		out += fmt.Sprint(j)
	}
	return out + fmt.Sprintf("%q %q", w.Net().List(), w.Ctl().Outbox(w.Now()))
}

// untouched fails if something else is told behind what is done.
func (s *stage) untouched(what string, do func()) {
	s.Helper()
	before := all(s.World)
	do()
	if after := all(s.World); after != before {
		s.Errorf("%s: it was\n%s\nand is\n%s", what, before, after)
	}
}

// tells is a message of a node to the controller, of job 1.
func tells(kind, node, step, arg int) api.Msg {
	return api.Msg{Kind: kind, From: node, To: -1, Job: 1, Step: step, Arg: arg}
}

// asks is a message of the controller to a node, of job 1.
func asks(kind, node, step int) api.Msg {
	return api.Msg{Kind: kind, From: -1, To: node, Job: 1, Step: step}
}

// wrote is the event of a node's record, of job 1.
func wrote(kind, node, step, arg int) world.Event {
	return world.Event{Kind: kind, Node: node, Job: 1, Step: step, Arg: arg}
}

func TestNewOfWhatMayNotBe(t *testing.T) {
	for name, change := range map[string]func(c *world.Config){
		"no layouts":       func(c *world.Config) { c.Layouts = nil },
		"empty layouts":    func(c *world.Config) { c.Layouts = []cores.Layout{} },
		"17 layouts":       func(c *world.Config) { *c = config(17) },
		"no cores":         func(c *world.Config) { c.Layouts[0].Per = 0 },
		"too many sockets": func(c *world.Config) { c.Layouts[2].Sockets = 9 },
		"too many cores":   func(c *world.Config) { c.Layouts[1] = cores.Layout{Sockets: 8, Per: 64} },
		"no grace":         func(c *world.Config) { c.Grace = 0 },
		"a grace below 0":  func(c *world.Config) { c.Grace = least },
		"a long grace":     func(c *world.Config) { c.Grace = 1<<30 + 1 },
		"a kill below 0":   func(c *world.Config) { c.Kill = -1 },
		"a long kill":      func(c *world.Config) { c.Kill = 1<<30 + 1 },
	} {
		c := config(3)
		change(&c)
		if w, e := world.New(c); w != nil || e != api.ErrArg {
			t.Errorf("P20.1: of %s: %v, %d", name, w, e)
		}
	}
}

func TestNew(t *testing.T) {
	layouts := []cores.Layout{{Sockets: 1, Per: 1}, {Sockets: 8, Per: 32}, {Sockets: 2, Per: 3}}
	s := newStage(t, world.Config{Layouts: layouts, Grace: 1 << 30, Kill: 1 << 30})
	for i, l := range layouts {
		a := s.Node(i)
		if a == nil || a.Down() || a.Now() != 0 || a.Log() != "" || a.Free() != cores.All(l) {
			t.Errorf("P20.1: node %d is not as at first", i)
		}
	}
	for _, i := range []int{least, -1, 3, 16, most} {
		if s.Node(i) != nil {
			t.Errorf("P20.1: node %d is there", i)
		}
	}
	if s.Nodes() != 3 || s.Now() != 0 || s.Ctl() == nil || s.Ctl().Jobs() != 0 || s.Net() == nil {
		t.Errorf("P20.1: %d nodes, tick %d", s.Nodes(), s.Now())
	}
	if len(s.Net().List())+s.Net().Lost()+len(s.Given())+len(s.Events()) != 0 {
		t.Error("P20.1: something was done at first")
	}
	if s := newStage(t, config(16)); s.Nodes() != 16 || s.Node(15) == nil {
		t.Errorf("P20.1: %d nodes, of 16", s.Nodes())
	}
	// Who was handed in may change behind that.
	layouts[0].Per = 9
	if s.Node(0).Free().Count() != 1 {
		t.Error("R5: a layout is kept")
	}
}

// TestIDs has each node answer by its place.
func TestIDs(t *testing.T) {
	s := newStage(t, config(3), on([]int{0, 1, 2}, step()))
	s.does(true, world.Op{Do: send})
	s.do(3, world.Op{Do: deliver})
	s.has(tells(api.MsgReady, 0, 0, 0), tells(api.MsgReady, 1, 0, 0), tells(api.MsgReady, 2, 0, 0))
}

// TestKey has the controller sign, and the nodes check, by the key of the world.
func TestKey(t *testing.T) {
	for _, key := range []string{"", "k", "another one"} {
		c := config(1)
		c.Key = key
		s := newStage(t, c, on([]int{0}, step()))
		s.rounds(1)
		s.does(true, world.Op{Do: send})
		m, _ := wire.Decode(s.Net().List()[0])
		o, e := agent.Unpack(m.Text)
		if _, f := cred.Open(key, o.Cred); e != api.OK || f != api.OK {
			t.Errorf("P20.1: the order of key %q: %d, %d", key, e, f)
		}
		s.does(true, world.Op{Do: deliver})
		if l := s.Node(0).Tasks(); len(l) != 2 || l[0].State != api.Held {
			t.Errorf("P20.1: of key %q: %v", key, l)
		}
	}
}

// TestGrace has tasks that go beyond their limit asked to end, and killed a grace later.
func TestGrace(t *testing.T) {
	for _, grace := range []int{1, 3} {
		c := config(1)
		c.Grace = grace
		s := newStage(t, c, on([]int{0}, step()))
		s.rounds(3)
		for now := range 4 + grace + 2 {
			want := 0
			if now >= 4 {
				want = 15
			}
			if now >= 4+grace {
				want = 9
			}
			if got := s.Node(0).Signalled(1); got != want {
				t.Errorf("P20.1: of grace %d, at %d: signalled by %d, want %d", grace, now, got, want)
			}
			s.does(true, world.Op{Do: tick})
		}
	}
}

// TestRoom has 200 messages on their way, and not one more.
func TestRoom(t *testing.T) {
	nodes := []int{0, 1, 2, 3, 4, 5, 6, 7, 8, 9, 10, 11, 12, 13, 14, 15}
	s := newStage(t, config(16), on(nodes, step()))
	s.do(13, world.Op{Do: send})
	if n, lost := len(s.Net().List()), s.Net().Lost(); n != 200 || lost != 8 {
		t.Errorf("P20.1: %d are on their way, and %d lost", n, lost)
	}
	s.does(false, world.Op{Do: twice})
	s.does(true, world.Op{Do: send}, world.Op{Do: deliver})
	if n, lost := len(s.Net().List()), s.Net().Lost(); n != 200 || lost != 24 {
		t.Errorf("P20.2: behind a delivery %d are on their way, and %d lost", n, lost)
	}
}

// TestExample is the example of the document.
func TestExample(t *testing.T) {
	s := newStage(t, config(1), on([]int{0}, step()))
	s.does(true, world.Op{Do: send}, world.Op{Do: deliver})
	if j, is := rec.Find(s.Node(0).State(), 1, 0); !is || j.Phase != rec.JobUp || s.Node(0).Log() == "" {
		t.Errorf("P20.2: the node knows %v, %v", j, is)
	}
	s.sees(wrote(rec.Prolog, 0, 0, 0))
}

// TestGiven has jobs changed that were handed in, or told.
func TestGiven(t *testing.T) {
	first := on([]int{0, 1}, step(), step(api.Edge{Step: 0, Kind: api.AfterAny}))
	second := on([]int{1}, step())
	s := newStage(t, config(2), first)
	s.does(false, world.Op{Do: submit, J: on(nil, step())})
	s.does(true, world.Op{Do: submit, J: second})
	want := fmt.Sprint([]api.Job{first, second})
	if got := fmt.Sprint(s.Given()); got != want {
		t.Errorf("P20.1: Given = %s, want %s", got, want)
	}
	for _, j := range append(s.Given(), first, second) {
		j.Nodes[0] = 9
		for i, x := range j.Steps {
			if len(x.After) > 0 {
				x.After[0].Step = 7
			}
			j.Steps[i].Ranks = 3
		}
	}
	if got := fmt.Sprint(s.Given()); got != want {
		t.Errorf("R5: Given = %s, want %s", got, want)
	}
	s.rounds(3)
	if x, is := rec.StepOf(s.Node(0).State(), 1, 0, 0); !is || x.Phase != rec.StepRuns || len(x.Pids) != 2 {
		t.Errorf("R5: the job runs as %v, %v", x, is)
	}
}

// TestEventsApart has events changed that were told.
func TestEventsApart(t *testing.T) {
	s := newStage(t, config(1), on([]int{0}, step()))
	s.rounds(1)
	l := s.Events()
	l[0].Arg = 9
	_ = append(l[:0], world.Event{Kind: 5})
	s.sees(wrote(rec.Prolog, 0, 0, 0))
}

func TestNil(t *testing.T) {
	for name, w := range map[string]*world.World{"nil": nil, "zero": {}} {
		for do := -1; do < 13; do++ {
			for _, k := range []int{least, -1, 0, 1, most} {
				done := w.Do(world.Op{Do: do, A: k, B: k, C: k, J: on([]int{0}, step())})
				if done && (w == nil || do != tick && do != send) {
					t.Errorf("P20.3: %s does %d", name, do)
				}
			}
		}
		if w.Node(0) != nil || w.Nodes() != 0 || w.Ctl() != nil || w.Net() != nil || len(w.Events()) != 0 || len(w.Given()) != 0 {
			t.Errorf("P20.3: %s: something is there", name)
		}
	}
	if (*world.World)(nil).Now() != 0 {
		t.Error("P20.3: Now of nil")
	}
}
