package mask_test

import (
	"math"
	"slices"
	"testing"

	"roundhouse/api"
	"roundhouse/mask"
)

const full = 1<<64 - 1

// bit says whether core c is in m, by what a mask is.
func bit(m mask.Mask, c int) bool {
	return m[c/64]&(1<<(c%64)) != 0
}

// bitsOf is the cores of m, rising, by what a mask is.
func bitsOf(m mask.Mask) []int {
	var l []int
	for c := range 256 {
		if bit(m, c) {
			l = append(l, c)
		}
	}
	return l
}

// samples are masks with few cores, with many, with long ranges, and with cores at the edges of each word.
func samples() []mask.Mask {
	out := []mask.Mask{{}, {full, full, full, full}, {1}, {0, 0, 0, 1 << 63}, {1 << 63, 1}, {0, full}, {full, 0, full}, {0x5555555555555555, 0x5555555555555555, 0x5555555555555555, 0x5555555555555555}, {1<<63 | 1, 1<<63 | 1, 1<<63 | 1, 1<<63 | 1}}
	x := uint64(1)
	next := func() uint64 {
		x ^= x << 13
		x ^= x >> 7
		x ^= x << 17
		return x
	}
	for i := range 90 {
		var m mask.Mask
		for w := range m {
			m[w] = next()
			if i%3 == 1 {
				m[w] &= next() & next() & next()
			}
			if i%3 == 2 {
				m[w] |= next() | next() | next()
			}
		}
		out = append(out, m)
	}
	return out
}

func TestOf(t *testing.T) {
	for i, c := range []struct {
		l    []int
		want mask.Mask
	}{
		{nil, mask.Mask{}}, {[]int{}, mask.Mask{}}, {[]int{0}, mask.Mask{1}}, {[]int{5, 1, 2}, mask.Mask{38}},
		{[]int{63}, mask.Mask{1 << 63}}, {[]int{64}, mask.Mask{0, 1}}, {[]int{127, 128}, mask.Mask{0, 1 << 63, 1}},
		{[]int{192, 191}, mask.Mask{0, 0, 1 << 63, 1}}, {[]int{255, 0}, mask.Mask{1, 0, 0, 1 << 63}},
	} {
		if m, e := mask.Of(c.l); m != c.want || e != api.OK {
			t.Errorf("P3.1: case %d: Of(%v): %v, %d", i, c.l, m, e)
		}
	}
	for c := range 256 {
		var want mask.Mask
		want[c/64] = 1 << (c % 64)
		if m, e := mask.Of([]int{c}); m != want || e != api.OK {
			t.Errorf("P3.1: Of(%d): %v, %d", c, m, e)
		}
	}
}

func TestOfWrong(t *testing.T) {
	for _, l := range [][]int{
		{-1}, {256}, {math.MinInt}, {math.MaxInt}, {1 << 32}, {1<<32 + 1, 2}, {3, -1}, {-1, 3}, {3, 256, 4},
		{0, 0}, {255, 255}, {7, 8, 7}, {64, 0, 64}, {1, 1, 256}, slices.Repeat([]int{9}, 257),
	} {
		if m, e := mask.Of(l); m != (mask.Mask{}) || e != api.ErrArg {
			t.Errorf("P3.1: Of(%v): %v, %d", l, m, e)
		}
	}
	// The same place in another word is another core.
	if _, e := mask.Of([]int{3, 67, 131, 195}); e != api.OK {
		t.Errorf("P3.1: Of(3, 67, 131, 195): %d", e)
	}
}

func TestOfAnyOrder(t *testing.T) {
	for _, m := range samples() {
		rising := bitsOf(m)
		falling := slices.Clone(rising)
		slices.Reverse(falling)
		turned := append(slices.Clone(rising[len(rising)/2:]), rising[:len(rising)/2]...)
		for _, l := range [][]int{rising, falling, turned} {
			kept := slices.Clone(l)
			if got, e := mask.Of(l); got != m || e != api.OK {
				t.Errorf("P3.1: Of(%v): %v, %d", l, got, e)
			}
			if !slices.Equal(l, kept) {
				t.Errorf("R5: Of changed what it was given: %v", l)
			}
		}
	}
}

func TestListHasCount(t *testing.T) {
	for _, m := range samples() {
		want := bitsOf(m)
		if got := m.List(); !slices.Equal(got, want) {
			t.Errorf("P3.1: List of %v: %v", m, got)
		}
		if got := m.Count(); got != len(want) {
			t.Errorf("P3.1: Count of %v: %d, not %d", m, got, len(want))
		}
		for c := range 256 {
			if m.Has(c) != bit(m, c) {
				t.Errorf("P3.1: %v Has %d: %v", m, c, m.Has(c))
			}
		}
		for _, c := range []int{-1, -64, -256, 256, 257, 320, 1 << 32, 1 << 40, math.MinInt, math.MaxInt} {
			if m.Has(c) {
				t.Errorf("P3.1: %v Has %d, which is no core", m, c)
			}
		}
	}
}

func TestListIsNew(t *testing.T) {
	m := mask.Mask{7}
	m.List()[0] = 99
	if got := m.List(); !slices.Equal(got, []int{0, 1, 2}) {
		t.Errorf("R5: List: %v", got)
	}
}

func TestAll(t *testing.T) {
	for n := range 257 {
		var want mask.Mask
		for c := range n {
			want[c/64] |= 1 << (c % 64)
		}
		if m, e := mask.All(n); m != want || e != api.OK {
			t.Errorf("P3.1: All(%d): %v, %d", n, m, e)
		}
	}
	for _, n := range []int{-1, -256, 257, 320, 1 << 32, math.MinInt, math.MaxInt} {
		if m, e := mask.All(n); m != (mask.Mask{}) || e != api.ErrArg {
			t.Errorf("P3.1: All(%d): %v, %d", n, m, e)
		}
	}
}

func TestAndOrMinus(t *testing.T) {
	for _, a := range samples() {
		for _, b := range samples() {
			keptA, keptB := a, b
			and, or, minus := a.And(b), a.Or(b), a.Minus(b)
			for c := range 256 {
				inA, inB := bit(a, c), bit(b, c)
				if bit(and, c) != (inA && inB) || bit(or, c) != (inA || inB) || bit(minus, c) != (inA && !inB) {
					t.Fatalf("P3.1: core %d of %v and %v", c, a, b)
				}
			}
			if a != keptA || b != keptB {
				t.Fatalf("R5: And, Or or Minus changed %v or %v", keptA, keptB)
			}
		}
	}
}

func TestLowest(t *testing.T) {
	for _, m := range samples() {
		kept, cores := m, bitsOf(m)
		for n := range len(cores) + 1 {
			got, e := m.Lowest(n)
			if e != api.OK || !slices.Equal(bitsOf(got), cores[:n]) {
				t.Errorf("P3.2: %v Lowest %d: %v, %d", m, n, got, e)
			}
		}
		for _, n := range []int{len(cores) + 1, 257, 1 << 32, math.MaxInt} {
			if got, e := m.Lowest(n); got != (mask.Mask{}) || e != api.ErrCores {
				t.Errorf("P3.2: %v Lowest %d: %v, %d", m, n, got, e)
			}
		}
		for _, n := range []int{-1, -256, math.MinInt} {
			if got, e := m.Lowest(n); got != (mask.Mask{}) || e != api.ErrArg {
				t.Errorf("P3.2: %v Lowest %d: %v, %d", m, n, got, e)
			}
		}
		if m != kept {
			t.Errorf("R5: Lowest changed %v", kept)
		}
	}
}

func TestAlgebra(t *testing.T) {
	all, _ := mask.All(256)
	none := mask.Mask{}
	some := samples()
	for i, a := range some {
		b, c := some[(i+1)%len(some)], some[(i+7)%len(some)]
		for law, holds := range map[string]bool{
			"or turned":        a.Or(b) == b.Or(a),
			"and turned":       a.And(b) == b.And(a),
			"or of three":      a.Or(b).Or(c) == a.Or(b.Or(c)),
			"and of three":     a.And(b).And(c) == a.And(b.And(c)),
			"and over or":      a.And(b.Or(c)) == a.And(b).Or(a.And(c)),
			"or over and":      a.Or(b.And(c)) == a.Or(b).And(a.Or(c)),
			"minus of or":      a.Minus(b.Or(c)) == a.Minus(b).And(a.Minus(c)),
			"minus of and":     a.Minus(b.And(c)) == a.Minus(b).Or(a.Minus(c)),
			"with itself":      a.Or(a) == a && a.And(a) == a && a.Minus(a) == none,
			"with none":        a.Or(none) == a && a.And(none) == none && a.Minus(none) == a && none.Minus(a) == none,
			"with all":         a.Or(all) == all && a.And(all) == a && a.Minus(all) == none && all.Minus(all.Minus(a)) == a,
			"taken apart":      a.And(b).Or(a.Minus(b)) == a && a.And(b).And(a.Minus(b)) == none,
			"counts":           a.Or(b).Count()+a.And(b).Count() == a.Count()+b.Count(),
			"counts of halves": a.Minus(b).Count()+a.And(b).Count() == a.Count(),
		} {
			if !holds {
				t.Errorf("P3.4: %s: %v, %v, %v", law, a, b, c)
			}
		}
		if back, e := mask.Of(a.List()); back != a || e != api.OK {
			t.Errorf("P3.4: the list of %v comes back as %v, %d", a, back, e)
		}
	}
}
