package pool_test

import (
	"math"
	"slices"
	"testing"

	"roundhouse/api"
	"roundhouse/cores"
	"roundhouse/mask"
	"roundhouse/pool"
)

const full = 1<<64 - 1

// everything has all 256 cores, so that what is beyond a layout is in it, too.
var everything = mask.Mask{full, full, full, full}

// eight is a pool of 2 sockets of 4.
func eight() *pool.Pool {
	return pool.New(cores.Layout{Sockets: 2, Per: 4})
}

// wrongOwners are numbers that are no owner's.
func wrongOwners() []int {
	return []int{-1, api.MaxNum + 1, 1 << 62, math.MinInt, math.MaxInt}
}

// seen is all that a pool tells of some owners.
type seen struct {
	free      mask.Mask
	owners    []int
	cores     []mask.Mask
	committed []bool
}

func look(p *pool.Pool, asked ...int) seen {
	s := seen{free: p.Free(), owners: p.Owners()}
	for _, owner := range asked {
		m, is := p.Of(owner)
		s.cores, s.committed = append(s.cores, m), append(s.committed, is)
	}
	return s
}

func (s seen) same(o seen) bool {
	return s.free == o.free && slices.Equal(s.owners, o.owners) && slices.Equal(s.cores, o.cores) && slices.Equal(s.committed, o.committed)
}

// stays checks that a call changes nothing of what a pool tells.
func stays(t *testing.T, p *pool.Pool, what string, call func()) {
	t.Helper()
	asked := append([]int{0, 1, 2, 3, 4, 5, api.MaxNum}, wrongOwners()...)
	before := look(p, asked...)
	call()
	if after := look(p, asked...); !before.same(after) {
		t.Errorf("R3: %s: %v, then %v", what, before, after)
	}
}

func TestNew(t *testing.T) {
	for sockets := -1; sockets <= 9; sockets++ {
		for per := -1; per <= 65; per++ {
			l := cores.Layout{Sockets: sockets, Per: per}
			p := pool.New(l)
			if (p == nil) != (cores.Check(l) != api.OK) {
				t.Errorf("P5.1: New(%v): %v", l, p)
			}
			if p != nil && (p.Free() != cores.All(l) || len(p.Owners()) != 0) {
				t.Errorf("P5.1: New(%v): %v is free, %v have cores", l, p.Free(), p.Owners())
			}
		}
	}
	for _, l := range []cores.Layout{{Sockets: math.MaxInt, Per: math.MaxInt}, {Sockets: math.MinInt, Per: math.MinInt}, {Sockets: 1 << 32, Per: 1 << 32}} {
		if pool.New(l) != nil {
			t.Errorf("P5.1: New(%v)", l)
		}
	}
}

func TestNobodyHasCoresAtFirst(t *testing.T) {
	p := eight()
	for _, owner := range append([]int{0, 1, api.MaxNum}, wrongOwners()...) {
		if m, is := p.Of(owner); m != (mask.Mask{}) || is {
			t.Errorf("P5.1: Of(%d): %v, %v", owner, m, is)
		}
		stays(t, p, "Commit", func() {
			if e := p.Commit(owner); e != api.ErrState {
				t.Errorf("P5.3: Commit(%d): %d", owner, e)
			}
		})
		stays(t, p, "Release", func() {
			if e := p.Release(owner); e != api.ErrState {
				t.Errorf("P5.3: Release(%d): %d", owner, e)
			}
		})
	}
}

func TestReserve(t *testing.T) {
	p := eight()
	for i, c := range []struct {
		owner int
		w     cores.Wish
		want  []mask.Mask
		free  mask.Mask
	}{
		{3, cores.Wish{Ranks: 2, Per: 1, Dist: api.Cyclic}, []mask.Mask{{0x01}, {0x10}}, mask.Mask{0xee}},
		{0, cores.Wish{Ranks: 1, Per: 3, Dist: api.Block}, []mask.Mask{{0x0e}}, mask.Mask{0xe0}},
		{api.MaxNum, cores.Wish{Ranks: 3, Per: 1, Dist: api.Cyclic}, []mask.Mask{{0x20}, {0x40}, {0x80}}, mask.Mask{}},
	} {
		if got, e := p.Reserve(c.owner, c.w); e != api.OK || !slices.Equal(got, c.want) || p.Free() != c.free {
			t.Errorf("P5.2: case %d: %v, %d, %v is free", i, got, e, p.Free())
		}
	}
	want := seen{owners: []int{0, 3, api.MaxNum}, cores: []mask.Mask{{0x0e}, {}, {0x11}, {0xe0}}, committed: make([]bool, 4)}
	if s := look(p, 0, 1, 3, api.MaxNum); !s.same(want) {
		t.Errorf("P5.1: %v", s)
	}
}

func TestReserveOfTheExample(t *testing.T) {
	p := pool.New(cores.Layout{Sockets: 1, Per: 4})
	if got, e := p.Reserve(1, cores.Wish{Ranks: 2, Per: 2}); e != api.OK || !slices.Equal(got, []mask.Mask{{3}, {12}}) || p.Free() != (mask.Mask{}) {
		t.Errorf("P5.2: %v, %d, %v is free", got, e, p.Free())
	}
}

// The free cores are the pool's, whatever the wish says of them.
func TestReserveOfThePoolsFreeCores(t *testing.T) {
	for _, free := range []mask.Mask{{}, {0x01}, {0xf0}, {0xff00}, everything} {
		p := eight()
		p.Take(1, mask.Mask{0x05})
		if got, e := p.Reserve(2, cores.Wish{Free: free, Ranks: 2, Per: 2}); e != api.OK || !slices.Equal(got, []mask.Mask{{0x0a}, {0x30}}) {
			t.Errorf("P5.2: with %v as free: %v, %d", free, got, e)
		}
		if got, e := p.Reserve(3, cores.Wish{Free: free, Ranks: 1, Per: 3}); e != api.ErrCores || len(got) != 0 {
			t.Errorf("P5.2: with %v as free: %v, %d", free, got, e)
		}
	}
}

func TestReserveWrong(t *testing.T) {
	fine, many := cores.Wish{Ranks: 1, Per: 1}, cores.Wish{Ranks: 1, Per: 8}
	type ask struct {
		owner int
		w     cores.Wish
		want  api.Errno
	}
	asks := []ask{
		{1, fine, api.ErrState}, {1, many, api.ErrState}, {1, cores.Wish{}, api.ErrState}, {1, cores.Wish{Ranks: 1, Per: 1, Dist: 2}, api.ErrState},
		{2, fine, api.ErrState}, {2, many, api.ErrState}, {2, cores.Wish{}, api.ErrState},
		{3, many, api.ErrCores}, {3, cores.Wish{Ranks: 32, Per: 256}, api.ErrCores}, {3, cores.Wish{Ranks: 6, Per: 1, Free: everything}, api.ErrCores},
	}
	for _, w := range []cores.Wish{{}, {Ranks: 0, Per: 1}, {Ranks: 33, Per: 1}, {Ranks: 1, Per: 0}, {Ranks: 1, Per: 257}, {Ranks: -1, Per: -1}, {Ranks: 1, Per: 1, Dist: 2}, {Ranks: 1, Per: 1, Dist: -1}, {Ranks: math.MaxInt, Per: math.MaxInt}} {
		asks = append(asks, ask{3, w, api.ErrArg})
	}
	for _, owner := range wrongOwners() {
		asks = append(asks, ask{owner, fine, api.ErrArg}, ask{owner, many, api.ErrArg}, ask{owner, cores.Wish{}, api.ErrArg})
	}
	p := eight()
	p.Reserve(1, cores.Wish{Ranks: 2, Per: 1})
	p.Take(2, mask.Mask{0x80})
	for _, c := range asks {
		stays(t, p, "Reserve", func() {
			if got, e := p.Reserve(c.owner, c.w); len(got) != 0 || e != c.want {
				t.Errorf("P5.2: Reserve(%d, %v): %v, %d, not %d", c.owner, c.w, got, e, c.want)
			}
		})
	}
}

func TestTake(t *testing.T) {
	p := eight()
	for i, c := range []struct {
		owner int
		m     mask.Mask
		free  mask.Mask
	}{{3, mask.Mask{0x12}, mask.Mask{0xed}}, {0, mask.Mask{0x01}, mask.Mask{0xec}}, {api.MaxNum, mask.Mask{0xec}, mask.Mask{}}} {
		if e := p.Take(c.owner, c.m); e != api.OK || p.Free() != c.free {
			t.Errorf("P5.2: case %d: %d, %v is free", i, e, p.Free())
		}
		if m, is := p.Of(c.owner); m != c.m || !is {
			t.Errorf("P5.2: case %d: it has %v, %v", i, m, is)
		}
	}
	if got := p.Owners(); !slices.Equal(got, []int{0, 3, api.MaxNum}) {
		t.Errorf("P5.1: Owners: %v", got)
	}
	whole := pool.New(cores.Layout{Sockets: 8, Per: 32})
	if e := whole.Take(1, everything); e != api.OK || whole.Free() != (mask.Mask{}) {
		t.Errorf("P5.2: Take of all 256 cores: %d", e)
	}
}

func TestTakeWrong(t *testing.T) {
	type ask struct {
		owner int
		m     mask.Mask
		want  api.Errno
	}
	asks := []ask{
		{1, mask.Mask{}, api.ErrArg}, {2, mask.Mask{}, api.ErrArg}, {3, mask.Mask{}, api.ErrArg},
		{1, mask.Mask{0x04}, api.ErrState}, {1, mask.Mask{0x01}, api.ErrState}, {1, everything, api.ErrState}, {2, mask.Mask{0x04}, api.ErrState}, {2, mask.Mask{0x80}, api.ErrState},
		{3, mask.Mask{0x01}, api.ErrCores}, {3, mask.Mask{0x80}, api.ErrCores}, {3, mask.Mask{0x06}, api.ErrCores}, {3, mask.Mask{0xff}, api.ErrCores},
		{3, mask.Mask{0x100}, api.ErrCores}, {3, mask.Mask{0x104}, api.ErrCores}, {3, mask.Mask{0x04, 1}, api.ErrCores}, {3, mask.Mask{0, 0, 0, 1 << 63}, api.ErrCores}, {3, everything, api.ErrCores},
	}
	for _, owner := range wrongOwners() {
		asks = append(asks, ask{owner, mask.Mask{0x04}, api.ErrArg}, ask{owner, mask.Mask{0x01}, api.ErrArg}, ask{owner, mask.Mask{}, api.ErrArg})
	}
	p := eight()
	p.Reserve(1, cores.Wish{Ranks: 2, Per: 1})
	p.Take(2, mask.Mask{0x80})
	for _, c := range asks {
		stays(t, p, "Take", func() {
			if e := p.Take(c.owner, c.m); e != c.want {
				t.Errorf("P5.2: Take(%d, %v): %d, not %d", c.owner, c.m, e, c.want)
			}
		})
	}
}

func TestCommit(t *testing.T) {
	p := eight()
	p.Reserve(1, cores.Wish{Ranks: 2, Per: 1})
	p.Reserve(2, cores.Wish{Ranks: 1, Per: 2})
	p.Take(3, mask.Mask{0x80})
	if e := p.Commit(1); e != api.OK {
		t.Errorf("P5.3: Commit: %d", e)
	}
	want := seen{free: mask.Mask{0x70}, owners: []int{1, 2, 3}, cores: []mask.Mask{{0x03}, {0x0c}, {0x80}}, committed: []bool{true, false, true}}
	if s := look(p, 1, 2, 3); !s.same(want) {
		t.Errorf("P5.3: %v", s)
	}
	for _, owner := range append([]int{0, 1, 3, 4}, wrongOwners()...) {
		stays(t, p, "Commit", func() {
			if e := p.Commit(owner); e != api.ErrState {
				t.Errorf("P5.3: Commit(%d): %d", owner, e)
			}
		})
	}
}

func TestRelease(t *testing.T) {
	p := eight()
	p.Reserve(1, cores.Wish{Ranks: 2, Per: 1})
	p.Reserve(2, cores.Wish{Ranks: 1, Per: 2})
	p.Take(3, mask.Mask{0x80})
	p.Commit(1)
	for i, c := range []struct {
		owner int
		free  mask.Mask
		left  []int
	}{{2, mask.Mask{0x7c}, []int{1, 3}}, {3, mask.Mask{0xfc}, []int{1}}, {1, mask.Mask{0xff}, nil}} {
		if e := p.Release(c.owner); e != api.OK || p.Free() != c.free || !slices.Equal(p.Owners(), c.left) {
			t.Errorf("P5.3: case %d: %d, %v is free, %v have cores", i, e, p.Free(), p.Owners())
		}
		if m, is := p.Of(c.owner); m != (mask.Mask{}) || is {
			t.Errorf("P5.3: case %d: it has %v, %v", i, m, is)
		}
		stays(t, p, "Release", func() {
			if e := p.Release(c.owner); e != api.ErrState {
				t.Errorf("P5.3: case %d, again: %d", i, e)
			}
		})
		stays(t, p, "Commit", func() {
			if e := p.Commit(c.owner); e != api.ErrState {
				t.Errorf("P5.3: case %d, Commit: %d", i, e)
			}
		})
	}
}

// Who had committed cores, and has given them back, has reserved ones when he reserves again.
func TestReserveBehindRelease(t *testing.T) {
	p := eight()
	p.Take(1, mask.Mask{0x01})
	p.Release(1)
	if got, e := p.Reserve(1, cores.Wish{Ranks: 1, Per: 2}); e != api.OK || !slices.Equal(got, []mask.Mask{{3}}) {
		t.Errorf("P5.2: %v, %d", got, e)
	}
	if m, is := p.Of(1); m != (mask.Mask{3}) || is {
		t.Errorf("P5.1: it has %v, %v", m, is)
	}
	if e := p.Commit(1); e != api.OK {
		t.Errorf("P5.3: Commit: %d", e)
	}
}

// A pool that New did not make has no cores; no call may panic on it, nor on nil.
func TestNilAndZero(t *testing.T) {
	for i, c := range []struct {
		p                               *pool.Pool
		reserve, take, commit, released api.Errno
	}{
		{nil, api.ErrArg, api.ErrArg, api.ErrArg, api.ErrArg},
		{&pool.Pool{}, api.ErrArg, api.ErrCores, api.ErrState, api.ErrState},
	} {
		if got, e := c.p.Reserve(1, cores.Wish{Free: everything, Ranks: 1, Per: 1}); len(got) != 0 || e != c.reserve {
			t.Errorf("P5.3: case %d: Reserve: %v, %d", i, got, e)
		}
		if e := c.p.Take(1, mask.Mask{1}); e != c.take {
			t.Errorf("P5.3: case %d: Take: %d", i, e)
		}
		if e := c.p.Commit(1); e != c.commit {
			t.Errorf("P5.3: case %d: Commit: %d", i, e)
		}
		if e := c.p.Release(1); e != c.released {
			t.Errorf("P5.3: case %d: Release: %d", i, e)
		}
		if s := look(c.p, 1); !s.same(seen{cores: []mask.Mask{{}}, committed: []bool{false}}) {
			t.Errorf("P5.3: case %d: %v", i, s)
		}
	}
}

func TestAnswersAreNew(t *testing.T) {
	p, other := eight(), eight()
	ranks, _ := p.Reserve(1, cores.Wish{Ranks: 2, Per: 1})
	stays(t, p, "what Reserve told is changed", func() { ranks[0] = everything })
	owners := p.Owners()
	stays(t, p, "what Owners told is changed", func() { owners[0] = 5 })
	if other.Free() != (mask.Mask{0xff}) || len(other.Owners()) != 0 {
		t.Error("R6: another pool has changed")
	}
}
