package net_test

import (
	"math"
	"slices"
	"strings"
	"testing"

	"roundhouse/net"
)

const (
	least = math.MinInt
	most  = math.MaxInt
)

// of is a net of room for so many, with messages.
func of(t *testing.T, room int, l ...string) *net.Net {
	t.Helper()
	n := net.New(room)
	if n == nil || n.Send(l) != len(l) {
		t.Fatalf("P19.1: a net of %d can't have %q", room, l)
	}
	return n
}

// has fails unless these messages are there, and so many lost.
func has(t *testing.T, n *net.Net, lost int, want ...string) {
	t.Helper()
	if got := n.List(); !slices.Equal(got, want) {
		t.Errorf("P19.1: List = %q, want %q", got, want)
	}
	if n.Lost() != lost {
		t.Errorf("P19.1: Lost = %d, want %d", n.Lost(), lost)
	}
}

func TestNew(t *testing.T) {
	for _, room := range []int{least, -1, 0, 1001, most} {
		if net.New(room) != nil {
			t.Errorf("P19.1: New(%d) is there", room)
		}
	}
	for _, room := range []int{1, 2, 200, 999, 1000} {
		n := net.New(room)
		if n == nil {
			t.Fatalf("P19.1: New(%d) = nil", room)
		}
		has(t, n, 0)
		if laid := n.Send(slices.Repeat([]string{"x"}, room+3)); laid != room || len(n.List()) != room || n.Lost() != 3 {
			t.Errorf("P19.1: of %d, %d were laid, and %d lost", room, laid, n.Lost())
		}
	}
}

func TestSend(t *testing.T) {
	n := of(t, 4)
	for i, c := range []struct {
		send []string
		laid int
		lost int
		want []string
	}{
		{nil, 0, 0, nil},
		{[]string{}, 0, 0, nil},
		{[]string{"b", "a"}, 2, 0, []string{"b", "a"}},
		{[]string{""}, 1, 0, []string{"b", "a", ""}},
		{[]string{"a", "c", "d"}, 1, 2, []string{"b", "a", "", "a"}},
		{[]string{"e"}, 0, 3, []string{"b", "a", "", "a"}},
		{nil, 0, 3, []string{"b", "a", "", "a"}},
	} {
		if laid := n.Send(c.send); laid != c.laid {
			t.Errorf("P19.1: case %d: %d were laid, want %d", i, laid, c.laid)
		}
		has(t, n, c.lost, c.want...)
	}
	n.Take(2)
	if n.Send([]string{"f", "g"}) != 1 {
		t.Error("P19.1: there is room again")
	}
	has(t, n, 4, "b", "a", "a", "f")
}

// places are numbers, and which of three messages is at their place.
var places = []struct{ i, at int }{
	{0, 0}, {1, 1}, {2, 2}, {3, 0}, {4, 1}, {5, 2}, {300, 0}, {most, most % 3},
	{-1, 2}, {-2, 1}, {-3, 0}, {-4, 2}, {-6, 0}, {least, (least%3 + 3) % 3},
}

func TestTake(t *testing.T) {
	for _, p := range places {
		want := []string{"a", "b", "c"}
		n := of(t, 3, want...)
		if s, is := n.Take(p.i); !is || s != want[p.at] {
			t.Errorf("P19.2: Take(%d) = %q, %v", p.i, s, is)
		}
		has(t, n, 0, slices.Delete(want, p.at, p.at+1)...)
	}
	// The example of the document.
	if s, is := of(t, 9, "a", "b").Take(3); s != "b" || !is {
		t.Errorf("P19.2: Take(3) of a, b = %q, %v", s, is)
	}
	n := of(t, 2, "")
	if s, is := n.Take(7); s != "" || !is {
		t.Errorf("P19.2: an empty message = %q, %v", s, is)
	}
	has(t, n, 0)
}

func TestDrop(t *testing.T) {
	for _, p := range places {
		want := []string{"a", "b", "c"}
		n := of(t, 3, want...)
		if !n.Drop(p.i) {
			t.Errorf("P19.2: Drop(%d) = false", p.i)
		}
		has(t, n, 1, slices.Delete(want, p.at, p.at+1)...)
	}
}

func TestTwice(t *testing.T) {
	for _, p := range places {
		want := []string{"a", "b", "c"}
		n := of(t, 4, want...)
		if !n.Twice(p.i) {
			t.Errorf("P19.2: Twice(%d) = false", p.i)
		}
		has(t, n, 0, append(want, want[p.at])...)
		if n.Twice(p.i) {
			t.Errorf("P19.2: Twice(%d) of a full net = true", p.i)
		}
		has(t, n, 0, append(want, want[p.at])...)
	}
}

func TestNone(t *testing.T) {
	emptied := of(t, 3, "a")
	emptied.Take(0)
	for _, n := range []*net.Net{net.New(3), emptied} {
		for _, i := range []int{least, -1, 0, 1, most} {
			if s, is := n.Take(i); s != "" || is {
				t.Errorf("P19.2: Take(%d) of none = %q, %v", i, s, is)
			}
			if n.Drop(i) || n.Twice(i) {
				t.Errorf("P19.2: Drop, or Twice, of %d of none is true", i)
			}
		}
		has(t, n, 0)
	}
}

func TestNil(t *testing.T) {
	for name, n := range map[string]*net.Net{"nil": nil, "zero": {}} {
		if laid := n.Send(nil); laid != 0 {
			t.Errorf("P19.2: %s: Send = %d", name, laid)
		}
		if s, is := n.Take(1); s != "" || is || n.Drop(1) || n.Twice(1) {
			t.Errorf("P19.2: %s: something is there", name)
		}
		has(t, n, 0)
	}
	if (*net.Net)(nil).Send([]string{"a"}) != 0 {
		t.Error("P19.2: nil takes a message")
	}
	has(t, nil, 0)
}

// TestApart has lists changed that were handed in, or told.
func TestApart(t *testing.T) {
	l := []string{"a", "b", "c"}
	n := of(t, 9, l...)
	l[0] = "x"
	has(t, n, 0, "a", "b", "c")
	told := n.List()
	told[1] = "y"
	_ = append(told[:1], "z")
	has(t, n, 0, "a", "b", "c")
	told = n.List()
	n.Take(0)
	n.Send([]string{"d"})
	if strings.Join(told, "") != "abc" {
		t.Errorf("R5: what was told is %q now", told)
	}
}
