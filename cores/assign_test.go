package cores_test

import (
	"math"
	"slices"
	"testing"

	"roundhouse/api"
	"roundhouse/cores"
	"roundhouse/mask"
)

const full = 1<<64 - 1

// everything has all 256 cores, so that what is beyond a layout is free, too.
var everything = mask.Mask{full, full, full, full}

// frees are some masks of free cores.
func frees() []mask.Mask {
	return []mask.Mask{
		{}, everything, {1}, {0x7d}, {0xf0f0f0f0f0f0f0f0, 0xf0f0, 0, 1 << 63}, {full - 1}, {0, full, full, full},
		{0x5555555555555555, 0x5555555555555555, 0x5555555555555555, 0x5555555555555555},
		{0x9e3779b97f4a7c15, 0xbf58476d1ce4e5b9, 0x94d049bb133111eb, 0x2545f4914f6cdd1d},
	}
}

// wantRanks lays ranks by what the document asks for; nil, if the cores are too few.
func wantRanks(l cores.Layout, w cores.Wish) []mask.Mask {
	ranks, n := make([]mask.Mask, w.Ranks), 0
	for _, c := range wantOrder(l, w.Dist) {
		if n < w.Ranks*w.Per && w.Free[c/64]>>(c%64)&1 == 1 {
			ranks[n/w.Per][c/64] |= 1 << (c % 64)
			n++
		}
	}
	if n < w.Ranks*w.Per {
		return nil
	}
	return ranks
}

func TestAssignKnown(t *testing.T) {
	l := cores.Layout{Sockets: 2, Per: 4}
	for i, c := range []struct {
		w    cores.Wish
		want []mask.Mask
		err  api.Errno
	}{
		{cores.Wish{Free: everything, Ranks: 2, Per: 2}, []mask.Mask{{0x03}, {0x0c}}, api.OK},
		{cores.Wish{Free: everything, Ranks: 2, Per: 2, Dist: api.Cyclic}, []mask.Mask{{0x11}, {0x22}}, api.OK},
		{cores.Wish{Free: everything, Ranks: 3, Per: 1, Dist: api.Cyclic}, []mask.Mask{{0x01}, {0x10}, {0x02}}, api.OK},
		{cores.Wish{Free: everything, Ranks: 2, Per: 3, Dist: api.Cyclic}, []mask.Mask{{0x13}, {0x64}}, api.OK},
		{cores.Wish{Free: mask.Mask{0xee}, Ranks: 2, Per: 2}, []mask.Mask{{0x06}, {0x28}}, api.OK},
		{cores.Wish{Free: mask.Mask{0xee}, Ranks: 6, Per: 1, Dist: api.Cyclic}, []mask.Mask{{0x02}, {0x20}, {0x04}, {0x40}, {0x08}, {0x80}}, api.OK},
		{cores.Wish{Free: everything, Ranks: 1, Per: 8}, []mask.Mask{{0xff}}, api.OK},
		{cores.Wish{Free: everything, Ranks: 8, Per: 1}, []mask.Mask{{1}, {2}, {4}, {8}, {16}, {32}, {64}, {128}}, api.OK},
		{cores.Wish{Free: everything, Ranks: 1, Per: 9}, nil, api.ErrCores},
		{cores.Wish{Free: everything, Ranks: 9, Per: 1}, nil, api.ErrCores},
		{cores.Wish{Free: everything, Ranks: 3, Per: 3}, nil, api.ErrCores},
		{cores.Wish{Free: mask.Mask{0xfe}, Ranks: 4, Per: 2, Dist: api.Cyclic}, nil, api.ErrCores},
		{cores.Wish{Free: mask.Mask{0xff00, 1}, Ranks: 1, Per: 1}, nil, api.ErrCores},
		{cores.Wish{Ranks: 1, Per: 1}, nil, api.ErrCores},
		{cores.Wish{Free: everything, Ranks: 32, Per: 256}, nil, api.ErrCores},
	} {
		if got, e := cores.Assign(l, c.w); !slices.Equal(got, c.want) || e != c.err {
			t.Errorf("P4.3: case %d: %v, %d", i, got, e)
		}
	}
}

func TestAssignAtTheLimits(t *testing.T) {
	l := cores.Layout{Sockets: 8, Per: 32}
	for _, dist := range []int{api.Block, api.Cyclic} {
		for _, w := range []cores.Wish{{Free: everything, Ranks: 32, Per: 8, Dist: dist}, {Free: everything, Ranks: 1, Per: 256, Dist: dist}} {
			if got, e := cores.Assign(l, w); e != api.OK || !slices.Equal(got, wantRanks(l, w)) {
				t.Errorf("P4.3: Assign(%v, %v): %v, %d", l, w, got, e)
			}
		}
	}
}

func TestAssignWrong(t *testing.T) {
	good := cores.Layout{Sockets: 2, Per: 2}
	wish := cores.Wish{Free: everything, Ranks: 1, Per: 1}
	wrong := func(l cores.Layout, w cores.Wish) {
		t.Helper()
		if got, e := cores.Assign(l, w); len(got) != 0 || e != api.ErrArg {
			t.Errorf("P4.3: Assign(%v, %v): %v, %d", l, w, got, e)
		}
	}
	for _, l := range wrongLayouts() {
		wrong(l, wish)
	}
	// With no core free, too: what may not be is told ahead of cores that are too few.
	for _, free := range []mask.Mask{everything, {}} {
		for _, n := range []int{-1, 2, 1 << 32, math.MinInt, math.MaxInt} {
			wrong(good, cores.Wish{Free: free, Ranks: 1, Per: 1, Dist: n})
		}
		for _, n := range []int{0, -1, 33, 256, 1 << 32, math.MinInt, math.MaxInt} {
			wrong(good, cores.Wish{Free: free, Ranks: n, Per: 1})
		}
		for _, n := range []int{0, -1, 257, 1 << 32, 1 << 62, math.MinInt, math.MaxInt} {
			wrong(good, cores.Wish{Free: free, Ranks: 1, Per: n})
			wrong(good, cores.Wish{Free: free, Ranks: 32, Per: n})
		}
		wrong(good, cores.Wish{Free: free, Ranks: -1, Per: -1})
	}
}

// holdsApart checks what must hold of ranks, however they are laid.
func holdsApart(t *testing.T, l cores.Layout, w cores.Wish, ranks []mask.Mask) {
	t.Helper()
	var seen mask.Mask
	for i, m := range ranks {
		if m.Count() != w.Per {
			t.Errorf("P4.4: rank %d of %v on %v has %d cores", i, w, l, m.Count())
		}
		if m.And(seen) != (mask.Mask{}) {
			t.Errorf("P4.4: rank %d of %v on %v shares cores", i, w, l)
		}
		if m.Minus(w.Free) != (mask.Mask{}) || m.Minus(cores.All(l)) != (mask.Mask{}) {
			t.Errorf("P4.4: rank %d of %v on %v has cores that are not free, or not there", i, w, l)
		}
		seen = seen.Or(m)
	}
}

func TestAssignOfManyLayouts(t *testing.T) {
	for _, l := range layouts() {
		for _, free := range frees() {
			for _, dist := range []int{api.Block, api.Cyclic} {
				for _, n := range [][2]int{{1, 1}, {1, 3}, {2, 2}, {3, 5}, {7, 1}, {32, 1}, {32, 8}, {1, 256}, {5, 20}} {
					w := cores.Wish{Free: free, Ranks: n[0], Per: n[1], Dist: dist}
					want, err := wantRanks(l, w), api.OK
					if want == nil {
						err = api.ErrCores
					}
					got, e := cores.Assign(l, w)
					if e != err || !slices.Equal(got, want) {
						t.Errorf("P4.3: Assign(%v, %v): %v, %d", l, w, got, e)
					}
					holdsApart(t, l, w, got)
				}
			}
		}
	}
}

// Cores that are just enough are given, and one more is too many.
func TestAssignToTheLastCore(t *testing.T) {
	for _, l := range layouts() {
		for _, free := range frees() {
			have := cores.All(l).And(free)
			w := cores.Wish{Free: free, Ranks: 1, Per: have.Count()}
			if w.Per > 0 {
				if got, e := cores.Assign(l, w); e != api.OK || !slices.Equal(got, []mask.Mask{have}) {
					t.Errorf("P4.3: Assign(%v, %v): %v, %d", l, w, got, e)
				}
			}
			w.Per++
			if w.Per <= 256 {
				if got, e := cores.Assign(l, w); e != api.ErrCores || len(got) != 0 {
					t.Errorf("P4.3: Assign(%v, %v): %v, %d", l, w, got, e)
				}
			}
		}
	}
}

func TestAssignIsNew(t *testing.T) {
	l, w := cores.Layout{Sockets: 2, Per: 2}, cores.Wish{Free: everything, Ranks: 2, Per: 1}
	first, _ := cores.Assign(l, w)
	first[0] = everything
	if again, _ := cores.Assign(l, w); !slices.Equal(again, []mask.Mask{{1}, {2}}) {
		t.Errorf("R5: Assign: %v", again)
	}
}
