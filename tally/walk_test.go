package tally_test

import (
	"slices"
	"testing"

	"roundhouse/api"
	"roundhouse/tally"
)

type dice uint64

func (d *dice) below(n int) int {
	*d = *d*6364136223846793005 + 1442695040888963407
	return int(uint64(*d) >> 33 % uint64(n))
}

// nodes throws some nodes, rising.
func (d *dice) nodes() []int {
	var l []int
	for n := range 16 {
		if d.below(4) == 0 {
			l = append(l, n)
		}
	}
	if len(l) == 0 {
		l = append(l, d.below(16))
	}
	return l
}

// model goes by the document's words: of each of 16 nodes whether it is one, its vote and its code, -1 as long as it has none.
type model struct {
	is    [16]bool
	votes [16]int
	codes [16]int
}

func newModel(nodes []int) *model {
	m := &model{}
	for i := range 16 {
		m.is[i], m.votes[i], m.codes[i] = slices.Contains(nodes, i), -1, -1
	}
	return m
}

// those is the nodes of which something is told as n.
func (m *model) those(told [16]int, n int) []int {
	var l []int
	for i := range 16 {
		if m.is[i] && told[i] == n {
			l = append(l, i)
		}
	}
	return l
}

func (m *model) state() int {
	if len(m.those(m.votes, 0)) > 0 {
		return 2
	}
	if len(m.those(m.votes, -1)) > 0 {
		return 0
	}
	if len(m.those(m.codes, -1)) > 0 {
		return 1
	}
	return 3
}

func (m *model) missing() []int {
	switch m.state() {
	case 0:
		return m.those(m.votes, -1)
	case 1:
		return m.those(m.codes, -1)
	}
	return nil
}

func (m *model) code() int {
	if m.state() != 3 {
		return 0
	}
	most := 0
	for i := range 16 {
		most = max(most, m.codes[i])
	}
	return most
}

// say is Vote and Exit: in which state it may be said is handed in.
func (m *model) say(told *[16]int, node, what, when int) api.Errno {
	if told[node] == what {
		return api.OK
	}
	if told[node] != -1 || m.state() != when {
		return api.ErrState
	}
	told[node] = what
	return api.OK
}

func (m *model) vote(node int, yes bool) api.Errno {
	if node < 0 || node > 15 || !m.is[node] {
		return api.ErrArg
	}
	what := 0
	if yes {
		what = 1
	}
	return m.say(&m.votes, node, what, 0)
}

func (m *model) exit(node, code int) api.Errno {
	if node < 0 || node > 15 || !m.is[node] || code < 0 || code > 255 {
		return api.ErrArg
	}
	return m.say(&m.codes, node, code, 1)
}

func TestWalk(t *testing.T) {
	d, ends := dice(14), [4]int{}
	for range 1500 {
		nodes := d.nodes()
		x, m := tally.New(nodes), newModel(nodes)
		no := 20 + d.below(200)
		for range 30 + 15*len(nodes) {
			node := nodes[d.below(len(nodes))]
			if d.below(12) == 0 {
				node = d.below(18) - 1
			}
			was := m.state()
			if d.below(2) == 0 {
				yes := d.below(no) != 0
				if e, want := x.Vote(node, yes), m.vote(node, yes); e != want {
					t.Fatalf("P14.1: %v: Vote(%d, %v) = %d, want %d", nodes, node, yes, e, want)
				}
			} else {
				code := []int{0, 0, 1, 143, 255, 256, -1}[d.below(7)]
				if e, want := x.Exit(node, code), m.exit(node, code); e != want {
					t.Fatalf("P14.2: %v: Exit(%d, %d) = %d, want %d", nodes, node, code, e, want)
				}
			}
			if x.State() != m.state() || x.Code() != m.code() || !slices.Equal(x.Missing(), m.missing()) {
				t.Fatalf("P14.2: %v: State %d, Code %d, Missing %v, want %d, %d, %v", nodes, x.State(), x.Code(), x.Missing(), m.state(), m.code(), m.missing())
			}
			checkGoesOn(t, was, x, m)
		}
		ends[x.State()]++
	}
	if slices.Min(ends[1:]) < 20 {
		t.Errorf("P14.4: only a few of the walks come to one of the states: %v", ends)
	}
}

// checkGoesOn fails if one that was refused goes, one goes back, or one goes of which not all voted yes.
func checkGoesOn(t *testing.T, was int, x *tally.Tally, m *model) {
	t.Helper()
	next := [4][]int{{0, 1, 2}, {1, 3}, {2}, {3}}
	if !slices.Contains(next[was], x.State()) {
		t.Fatalf("P14.4: from state %d to %d", was, x.State())
	}
	if x.State() != tally.Go && x.State() != tally.Ended {
		return
	}
	for i := range 16 {
		if m.is[i] && m.votes[i] != 1 {
			t.Fatalf("P14.4: it goes, though %d did not vote yes", i)
		}
	}
}
