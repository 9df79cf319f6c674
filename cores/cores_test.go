package cores_test

import (
	"math"
	"slices"
	"testing"

	"roundhouse/api"
	"roundhouse/cores"
	"roundhouse/mask"
)

// layouts are all that may be.
func layouts() []cores.Layout {
	var out []cores.Layout
	for sockets := 1; sockets <= 8; sockets++ {
		for per := 1; per <= 64 && sockets*per <= 256; per++ {
			out = append(out, cores.Layout{Sockets: sockets, Per: per})
		}
	}
	return out
}

// wrongLayouts are some that may not be; the products of the last ones wrap round to what would do.
func wrongLayouts() []cores.Layout {
	return []cores.Layout{
		{}, {Sockets: 1}, {Per: 1}, {Sockets: -1, Per: 1}, {Sockets: 1, Per: -1}, {Sockets: -1, Per: -1}, {Sockets: -2, Per: -4},
		{Sockets: 9, Per: 1}, {Sockets: 16, Per: 16}, {Sockets: 256, Per: 1}, {Sockets: 1, Per: 65}, {Sockets: 1, Per: 256}, {Sockets: 2, Per: 128},
		{Sockets: 4, Per: 65}, {Sockets: 5, Per: 52}, {Sockets: 5, Per: 64}, {Sockets: 6, Per: 43}, {Sockets: 7, Per: 37}, {Sockets: 8, Per: 33}, {Sockets: 8, Per: 64},
		{Sockets: math.MaxInt, Per: 1}, {Sockets: 1, Per: math.MaxInt}, {Sockets: math.MinInt, Per: math.MinInt}, {Sockets: math.MaxInt, Per: math.MaxInt},
		{Sockets: 8, Per: 1<<61 + 1}, {Sockets: 1<<60 + 1, Per: 16}, {Sockets: 1 << 32, Per: 1 << 32},
	}
}

func TestCheck(t *testing.T) {
	for sockets := -2; sockets <= 12; sockets++ {
		for per := -2; per <= 260; per++ {
			want := api.ErrArg
			if slices.Contains(layouts(), cores.Layout{Sockets: sockets, Per: per}) {
				want = api.OK
			}
			if e := cores.Check(cores.Layout{Sockets: sockets, Per: per}); e != want {
				t.Errorf("P4.1: Check of %d sockets of %d: %d, not %d", sockets, per, e, want)
			}
		}
	}
	for _, l := range wrongLayouts() {
		if e := cores.Check(l); e != api.ErrArg {
			t.Errorf("P4.1: Check(%v): %d", l, e)
		}
	}
}

func TestAll(t *testing.T) {
	for _, l := range layouts() {
		var want mask.Mask
		for c := range l.Sockets * l.Per {
			want[c/64] |= 1 << (c % 64)
		}
		if m := cores.All(l); m != want {
			t.Errorf("P4.1: All(%v): %v", l, m)
		}
	}
	for _, l := range wrongLayouts() {
		if m := cores.All(l); m != (mask.Mask{}) {
			t.Errorf("P4.1: All(%v): %v", l, m)
		}
	}
}

func TestSocket(t *testing.T) {
	outside := []int{-1, -64, 256, 257, 1 << 32, math.MinInt, math.MaxInt}
	for _, l := range layouts() {
		c := 0
		for socket := range l.Sockets {
			for range l.Per {
				if got := cores.Socket(l, c); got != socket {
					t.Errorf("P4.1: Socket(%v, %d): %d, not %d", l, c, got, socket)
				}
				c++
			}
		}
		for _, c := range append([]int{c, c + 1}, outside...) {
			if got := cores.Socket(l, c); got != -1 {
				t.Errorf("P4.1: Socket(%v, %d): %d", l, c, got)
			}
		}
	}
	for _, l := range wrongLayouts() {
		for _, c := range append([]int{0, 1, 255}, outside...) {
			if got := cores.Socket(l, c); got != -1 {
				t.Errorf("P4.1: Socket(%v, %d): %d", l, c, got)
			}
		}
	}
}

func TestOrderKnown(t *testing.T) {
	for i, c := range []struct {
		l    cores.Layout
		dist int
		want []int
	}{
		{cores.Layout{Sockets: 2, Per: 2}, api.Block, []int{0, 1, 2, 3}},
		{cores.Layout{Sockets: 2, Per: 2}, api.Cyclic, []int{0, 2, 1, 3}},
		{cores.Layout{Sockets: 3, Per: 2}, api.Cyclic, []int{0, 2, 4, 1, 3, 5}},
		{cores.Layout{Sockets: 2, Per: 3}, api.Cyclic, []int{0, 3, 1, 4, 2, 5}},
		{cores.Layout{Sockets: 1, Per: 4}, api.Cyclic, []int{0, 1, 2, 3}},
		{cores.Layout{Sockets: 4, Per: 1}, api.Cyclic, []int{0, 1, 2, 3}},
		{cores.Layout{Sockets: 1, Per: 1}, api.Block, []int{0}},
		{cores.Layout{Sockets: 1, Per: 1}, api.Cyclic, []int{0}},
	} {
		if got, e := cores.Order(c.l, c.dist); !slices.Equal(got, c.want) || e != api.OK {
			t.Errorf("P4.2: case %d: %v, %d", i, got, e)
		}
	}
}

// wantOrder sorts the cores by what the document asks for, Block by the core, Cyclic by its place and its socket.
func wantOrder(l cores.Layout, dist int) []int {
	order := make([]int, l.Sockets*l.Per)
	for c := range order {
		order[c] = c
	}
	if dist == api.Cyclic {
		slices.SortFunc(order, func(a, b int) int {
			if a%l.Per != b%l.Per {
				return a%l.Per - b%l.Per
			}
			return a/l.Per - b/l.Per
		})
	}
	return order
}

func TestOrderOfEachLayout(t *testing.T) {
	for _, l := range layouts() {
		for _, dist := range []int{api.Block, api.Cyclic} {
			if got, e := cores.Order(l, dist); !slices.Equal(got, wantOrder(l, dist)) || e != api.OK {
				t.Errorf("P4.2: Order(%v, %d): %v, %d", l, dist, got, e)
			}
		}
	}
}

func TestOrderWrong(t *testing.T) {
	for _, l := range wrongLayouts() {
		for dist := -1; dist <= 2; dist++ {
			if got, e := cores.Order(l, dist); len(got) != 0 || e != api.ErrArg {
				t.Errorf("P4.2: Order(%v, %d): %v, %d", l, dist, got, e)
			}
		}
	}
	for _, dist := range []int{-1, 2, 3, 256, 1 << 32, math.MinInt, math.MaxInt} {
		if got, e := cores.Order(cores.Layout{Sockets: 2, Per: 2}, dist); len(got) != 0 || e != api.ErrArg {
			t.Errorf("P4.2: Order by %d: %v, %d", dist, got, e)
		}
	}
}

func TestOrderIsNew(t *testing.T) {
	l := cores.Layout{Sockets: 2, Per: 2}
	first, _ := cores.Order(l, api.Cyclic)
	first[0] = 99
	if again, _ := cores.Order(l, api.Cyclic); !slices.Equal(again, []int{0, 2, 1, 3}) {
		t.Errorf("R5: Order: %v", again)
	}
}
