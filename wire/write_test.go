package wire_test

import (
	"math"
	"slices"
	"strings"
	"testing"

	"roundhouse/api"
	"roundhouse/wire"
)

func TestNumBytes(t *testing.T) {
	for _, c := range []struct {
		n    int
		want string
	}{
		{0, "\x00"}, {1, "\x01\x01"}, {127, "\x01\x7f"}, {128, "\x01\x80"}, {255, "\x01\xff"},
		{256, "\x02\x01\x00"}, {300, "\x02\x01\x2c"}, {1<<16 - 1, "\x02\xff\xff"},
		{1 << 16, "\x03\x01\x00\x00"}, {0x010203, "\x03\x01\x02\x03"}, {1<<24 - 1, "\x03\xff\xff\xff"},
		{1 << 24, "\x04\x01\x00\x00\x00"}, {1<<32 - 1, "\x04\xff\xff\xff\xff"},
		{1 << 32, "\x05\x01\x00\x00\x00\x00"}, {0x0102030405, "\x05\x01\x02\x03\x04\x05"},
		{api.MaxNum - 1, "\x05\xff\xff\xff\xff\xff"}, {api.MaxNum, "\x06\x01\x00\x00\x00\x00\x00"},
		{api.MaxNum + 1, ""}, {-1, ""}, {-256, ""}, {math.MaxInt, ""}, {math.MinInt, ""},
	} {
		if got := wire.Num(c.n); got != c.want {
			t.Errorf("P2.1: Num(%d): %q, not %q", c.n, got, c.want)
		}
	}
}

func TestTextBytes(t *testing.T) {
	for _, c := range []struct {
		n    int
		head string
	}{{0, "\x00"}, {1, "\x01\x01"}, {255, "\x01\xff"}, {256, "\x02\x01\x00"}, {4096, "\x02\x10\x00"}} {
		s := strings.Repeat("\xfe", c.n)
		if got := wire.Text(s); got != c.head+s {
			t.Errorf("P2.1: Text of %d bytes: %d bytes", c.n, len(got))
		}
	}
	if got := wire.Text("é"); got != "\x01\x02\xc3\xa9" {
		t.Errorf("P2.1: a text is bytes: %q", got)
	}
	for _, n := range []int{4097, 65536} {
		if got := wire.Text(strings.Repeat("x", n)); got != "" {
			t.Errorf("P2.1: Text of %d bytes: %d bytes", n, len(got))
		}
	}
}

func TestListBytes(t *testing.T) {
	for _, c := range []struct {
		l    []int
		want string
	}{
		{nil, "\x00"}, {[]int{}, "\x00"}, {[]int{0}, "\x01\x01\x00"}, {[]int{5, 0, 5}, "\x01\x03\x01\x05\x00\x01\x05"},
		{[]int{300, api.MaxNum}, "\x01\x02\x02\x01\x2c\x06\x01\x00\x00\x00\x00\x00"},
		{[]int{-1}, ""}, {[]int{1, 2, -1}, ""}, {[]int{-1, 2, 3}, ""}, {[]int{1, api.MaxNum + 1, 3}, ""}, {[]int{math.MinInt}, ""},
	} {
		if got := wire.List(c.l); got != c.want {
			t.Errorf("P2.1: List(%v): %q, not %q", c.l, got, c.want)
		}
	}
	if got := wire.List(make([]int, 4096)); got != "\x02\x10\x00"+strings.Repeat("\x00", 4096) {
		t.Errorf("P2.1: List of 4096: %d bytes", len(got))
	}
	if got := wire.List(make([]int, 4097)); got != "" {
		t.Errorf("P2.1: List of 4097: %d bytes", len(got))
	}
}

func TestListIsLeftAlone(t *testing.T) {
	l := []int{3, 1, 2}
	s := wire.List(l)
	if !slices.Equal(l, []int{3, 1, 2}) {
		t.Errorf("R5: List changed what it was given: %v", l)
	}
	l[0] = 9
	if s != "\x01\x03\x01\x03\x01\x01\x01\x02" {
		t.Errorf("R5: List keeps what it was given: %q", s)
	}
}
