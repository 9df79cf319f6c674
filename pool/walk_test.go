package pool_test

import (
	"slices"
	"testing"

	"roundhouse/api"
	"roundhouse/cores"
	"roundhouse/mask"
	"roundhouse/pool"
)

// holder is what the model knows of an owner.
type holder struct {
	cores     mask.Mask
	committed bool
}

// model goes by the document's words: who has what, with no map of the program's.
type model struct {
	layout  cores.Layout
	holders [6]holder
}

func (m *model) free() mask.Mask {
	free := cores.All(m.layout)
	for _, h := range m.holders {
		free = free.Minus(h.cores)
	}
	return free
}

func (m *model) reserve(owner int, w cores.Wish) ([]mask.Mask, api.Errno) {
	if m.holders[owner].cores.Count() > 0 {
		return nil, api.ErrState
	}
	w.Free = m.free()
	ranks, e := cores.Assign(m.layout, w)
	for _, r := range ranks {
		m.holders[owner].cores = m.holders[owner].cores.Or(r)
	}
	return ranks, e
}

func (m *model) take(owner int, x mask.Mask) api.Errno {
	switch {
	case x.Count() == 0:
		return api.ErrArg
	case m.holders[owner].cores.Count() > 0:
		return api.ErrState
	case x.And(m.free()) != x:
		return api.ErrCores
	}
	m.holders[owner] = holder{x, true}
	return api.OK
}

func (m *model) commit(owner int) api.Errno {
	if m.holders[owner].cores.Count() == 0 || m.holders[owner].committed {
		return api.ErrState
	}
	m.holders[owner].committed = true
	return api.OK
}

func (m *model) release(owner int) api.Errno {
	if m.holders[owner].cores.Count() == 0 {
		return api.ErrState
	}
	m.holders[owner] = holder{}
	return api.OK
}

// holds checks all that the pool tells against the model, and that no core has two owners, or none and is not free.
func (m *model) holds(t *testing.T, p *pool.Pool) {
	t.Helper()
	var owners []int
	all, count := p.Free(), p.Free().Count()
	for owner, h := range m.holders {
		got, is := p.Of(owner)
		if got != h.cores || is != h.committed {
			t.Fatalf("P5.1: Of(%d): %v, %v, not %v", owner, got, is, h)
		}
		if got.Count() > 0 {
			owners = append(owners, owner)
		}
		all, count = all.Or(got), count+got.Count()
	}
	if !slices.Equal(p.Owners(), owners) {
		t.Fatalf("P5.1: Owners: %v, not %v", p.Owners(), owners)
	}
	if all != cores.All(m.layout) || count != all.Count() {
		t.Fatalf("P5.4: %d cores of %v have owners or are free", count, m.layout)
	}
}

// dice are numbers that look thrown, the same ones each time.
type dice uint64

func (d *dice) below(n int) int {
	*d = *d*6364136223846793005 + 1442695040888963407
	return int(uint64(*d) >> 33 % uint64(n))
}

// some is a mask of up to n cores of the layout, or one beyond it.
func (d *dice) some(l cores.Layout, n int) mask.Mask {
	var m mask.Mask
	for range d.below(n + 1) {
		c := min(d.below(l.Sockets*l.Per+1), 255)
		m[c/64] |= 1 << (c % 64)
	}
	return m
}

// step does one thing to both, and checks that they answer the same.
func step(t *testing.T, d *dice, p *pool.Pool, m *model) {
	t.Helper()
	owner := d.below(len(m.holders))
	switch d.below(5) {
	case 0, 1:
		w := cores.Wish{Free: d.some(m.layout, 4), Ranks: d.below(5), Per: 1 + d.below(3), Dist: d.below(2)}
		want, err := m.reserve(owner, w)
		if got, e := p.Reserve(owner, w); e != err || !slices.Equal(got, want) {
			t.Fatalf("P5.2: Reserve(%d, %v): %v, %d, not %v, %d", owner, w, got, e, want, err)
		}
	case 2:
		x := d.some(m.layout, 3)
		if e, err := p.Take(owner, x), m.take(owner, x); e != err {
			t.Fatalf("P5.2: Take(%d, %v): %d, not %d", owner, x, e, err)
		}
	case 3:
		if e, err := p.Commit(owner), m.commit(owner); e != err {
			t.Fatalf("P5.3: Commit(%d): %d, not %d", owner, e, err)
		}
	case 4:
		if e, err := p.Release(owner), m.release(owner); e != err {
			t.Fatalf("P5.3: Release(%d): %d, not %d", owner, e, err)
		}
	}
}

func TestWalks(t *testing.T) {
	d := dice(5)
	for _, l := range []cores.Layout{{Sockets: 1, Per: 1}, {Sockets: 1, Per: 4}, {Sockets: 2, Per: 4}, {Sockets: 3, Per: 5}, {Sockets: 4, Per: 18}, {Sockets: 8, Per: 32}} {
		p, m := pool.New(l), &model{layout: l}
		for range 2000 {
			step(t, &d, p, m)
			m.holds(t, p)
		}
	}
}

// As many owners as there are cores: each has one, and they are told rising, whatever the order they came in.
func TestManyOwners(t *testing.T) {
	p := pool.New(cores.Layout{Sockets: 8, Per: 32})
	var want []int
	for i := range 256 {
		owner := (i * 91 % 256) * 1000003
		if got, e := p.Reserve(owner, cores.Wish{Ranks: 1, Per: 1}); e != api.OK || !slices.Equal(got[0].List(), []int{i}) {
			t.Errorf("P5.2: Reserve(%d): %v, %d", owner, got, e)
		}
		want = append(want, owner)
	}
	slices.Sort(want)
	if got := p.Owners(); !slices.Equal(got, want) {
		t.Errorf("P5.1: Owners: %v", got)
	}
	if _, e := p.Reserve(1, cores.Wish{Ranks: 1, Per: 1}); e != api.ErrCores {
		t.Errorf("P5.2: Reserve with none free: %d", e)
	}
}
