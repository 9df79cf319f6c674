package wire_test

import (
	"math"
	"slices"
	"strings"
	"testing"

	"roundhouse/api"
	"roundhouse/wire"
)

// holds checks what a reader's End tells.
func holds(t *testing.T, promise, what string, r *wire.Reader, err api.Errno, at int) {
	t.Helper()
	if e, p := r.End(); e != err || p != at {
		t.Errorf("%s: %s: error %d at %d, not %d at %d", promise, what, e, p, err, at)
	}
}

func TestReadNum(t *testing.T) {
	for _, c := range []struct {
		s   string
		n   int
		err api.Errno
		at  int
	}{
		{"\x00", 0, api.OK, 1},
		{"\x01\x01", 1, api.OK, 2},
		{"\x01\xff", 255, api.OK, 2},
		{"\x02\x01\x2c", 300, api.OK, 3},
		{"\x05\x01\x02\x03\x04\x05", 0x0102030405, api.OK, 6},
		{"\x06\x01\x00\x00\x00\x00\x00", api.MaxNum, api.OK, 7},
		{"\x00\x00", 0, api.ErrLeft, 1},
		{"\x01\x05x", 5, api.ErrLeft, 2},
		{"", 0, api.ErrCut, 0},
		{"\x01", 0, api.ErrCut, 0},
		{"\x02\x01", 0, api.ErrCut, 0},
		{"\x06\x01\x00\x00\x00\x00", 0, api.ErrCut, 0},
		{"\x01\x00", 0, api.ErrLong, 0},
		{"\x02\x00\x01", 0, api.ErrLong, 0},
		{"\x06\x00\xff\xff\xff\xff\xff", 0, api.ErrLong, 0},
		{"\x06\x01\x00\x00\x00\x00\x01", 0, api.ErrLong, 0},
		{"\x06\xff\xff\xff\xff\xff\xff", 0, api.ErrLong, 0},
		{"\x07\x01\x00\x00\x00\x00\x00\x00", 0, api.ErrLong, 0},
		{"\xff" + strings.Repeat("\x01", 255), 0, api.ErrLong, 0},
	} {
		r := wire.Read(c.s)
		if n := r.Num(); n != c.n {
			t.Errorf("P2.2: Num of %q: %d, not %d", c.s, n, c.n)
		}
		holds(t, "P2.2", "Num", r, c.err, c.at)
	}
}

// Where several things are wrong, the one that is met first counts: how many follow, whether they are there, the first one, the number.
func TestReadNumFirstWrong(t *testing.T) {
	for _, c := range []struct {
		s   string
		err api.Errno
	}{
		{"\x07", api.ErrLong},
		{"\xff", api.ErrLong},
		{"\x07\x00", api.ErrLong},
		{"\x02\x00", api.ErrCut},
		{"\x06\x00", api.ErrCut},
		{"\x06\xff\xff", api.ErrCut},
	} {
		r := wire.Read(c.s)
		if n := r.Num(); n != 0 {
			t.Errorf("P2.2: Num of %q: %d", c.s, n)
		}
		holds(t, "P2.2", "Num", r, c.err, 0)
	}
}

func TestReadText(t *testing.T) {
	most := strings.Repeat("\x80", 4096)
	for _, c := range []struct {
		s, text string
		err     api.Errno
		at      int
	}{
		{"\x00", "", api.OK, 1},
		{"\x01\x02ab", "ab", api.OK, 4},
		{"\x01\x02\xff\x00", "\xff\x00", api.OK, 4},
		{"\x02\x10\x00" + most, most, api.OK, 4099},
		{"\x01\x01ab", "a", api.ErrLeft, 3},
		{"", "", api.ErrCut, 0},
		{"\x01", "", api.ErrCut, 0},
		{"\x01\x00", "", api.ErrLong, 0},
		{"\x01\x02a", "", api.ErrCut, 2},
		{"\x01\x01", "", api.ErrCut, 2},
		{"\x02\x10\x00" + most[1:], "", api.ErrCut, 3},
		{"\x02\x10\x01" + most + "x", "", api.ErrLong, 0},
		{"\x02\x10\x01", "", api.ErrLong, 0},
		{"\x06\x01\x00\x00\x00\x00\x00", "", api.ErrLong, 0},
	} {
		r := wire.Read(c.s)
		if s := r.Text(); s != c.text {
			t.Errorf("P2.2: Text: %q, not %q", s, c.text)
		}
		holds(t, "P2.2", "Text", r, c.err, c.at)
	}
}

func TestReadList(t *testing.T) {
	for _, c := range []struct {
		s    string
		most int
		l    []int
		err  api.Errno
		at   int
	}{
		{"\x00", 0, nil, api.OK, 1},
		{"\x00", 16, nil, api.OK, 1},
		{"\x01\x02\x00\x01\x09", 2, []int{0, 9}, api.OK, 5},
		{"\x01\x02\x00\x01\x09", 3, []int{0, 9}, api.OK, 5},
		{"\x01\x02\x00\x01\x09", math.MaxInt, []int{0, 9}, api.OK, 5},
		{"\x01\x01\x00\x00", 1, []int{0}, api.ErrLeft, 3},
		{"\x01\x02\x00\x01\x09", 1, nil, api.ErrLong, 0},
		{"\x01\x01\x00", 0, nil, api.ErrLong, 0},
		{"\x00", -1, nil, api.ErrLong, 0},
		{"\x00", math.MinInt, nil, api.ErrLong, 0},
		{"", -1, nil, api.ErrCut, 0},
		{"", 5, nil, api.ErrCut, 0},
		{"\x01\x00", 5, nil, api.ErrLong, 0},
		{"\x01\x03\x00\x00", 2, nil, api.ErrLong, 0},
		{"\x01\x02\x00", 2, nil, api.ErrCut, 3},
		{"\x01\x02\x00\x02\x01", 2, nil, api.ErrCut, 3},
		{"\x01\x02\x00\x01\x00", 2, nil, api.ErrLong, 3},
		{"\x01\x02\x01\x05\x07\x01", 2, nil, api.ErrLong, 4},
		{"\x06\x01\x00\x00\x00\x00\x00", math.MaxInt, nil, api.ErrCut, 7},
	} {
		r := wire.Read(c.s)
		if l := r.List(c.most); !slices.Equal(l, c.l) {
			t.Errorf("P2.2: List(%d) of %q: %v, not %v", c.most, c.s, l, c.l)
		}
		holds(t, "P2.2", "List", r, c.err, c.at)
	}
}

// Only the caller bounds how many are read.
func TestReadListByMostAlone(t *testing.T) {
	s := wire.Num(5000) + strings.Repeat("\x00", 5000)
	r := wire.Read(s)
	if l := r.List(5000); len(l) != 5000 {
		t.Errorf("P2.2: List of 5000: %d", len(l))
	}
	holds(t, "P2.2", "List", r, api.OK, len(s))
	r = wire.Read(s)
	if l := r.List(4999); len(l) != 0 {
		t.Errorf("P2.2: List of 5000, 4999 at most: %d", len(l))
	}
	holds(t, "P2.2", "List", r, api.ErrLong, 0)
}

func TestReadInTurn(t *testing.T) {
	r := wire.Read("\x02\x01\x2c\x01\x02ab\x01\x02\x00\x01\x09\x00")
	holds(t, "P2.3", "ahead of all", r, api.ErrLeft, 0)
	if n := r.Num(); n != 300 {
		t.Errorf("P2.2: Num: %d", n)
	}
	holds(t, "P2.3", "behind a number", r, api.ErrLeft, 3)
	if s := r.Text(); s != "ab" {
		t.Errorf("P2.2: Text: %q", s)
	}
	holds(t, "P2.3", "behind a text", r, api.ErrLeft, 7)
	if l := r.List(2); !slices.Equal(l, []int{0, 9}) {
		t.Errorf("P2.2: List: %v", l)
	}
	holds(t, "P2.3", "behind a list", r, api.ErrLeft, 12)
	if s := r.Text(); s != "" {
		t.Errorf("P2.2: Text: %q", s)
	}
	holds(t, "P2.3", "behind all", r, api.OK, 13)
	holds(t, "P2.3", "behind all, again", r, api.OK, 13)
	if n := r.Num(); n != 0 {
		t.Errorf("P2.2: Num: %d", n)
	}
	holds(t, "P2.2", "no bytes", r, api.ErrCut, 13)
}

// What is wrong stands at place 2 of each; behind it stands what could be taken, were the reader not to stop.
func TestReadStopsAtFirstError(t *testing.T) {
	takes := map[string]func(r *wire.Reader){
		"Num":  func(r *wire.Reader) { r.Num() },
		"Text": func(r *wire.Reader) { r.Text() },
		"List": func(r *wire.Reader) { r.List(1) },
	}
	for what, take := range takes {
		for _, c := range []struct {
			s   string
			err api.Errno
		}{{"\x01\x05\x07\x00\x00\x00", api.ErrLong}, {"\x01\x05\x01\x00\x00\x00", api.ErrLong}, {"\x01\x05\x06\x00\x00", api.ErrCut}} {
			r := wire.Read(c.s)
			if n := r.Num(); n != 5 {
				t.Fatalf("P2.2: Num: %d", n)
			}
			take(r)
			holds(t, "P2.2", what, r, c.err, 2)
			if n, s, l := r.Num(), r.Text(), r.List(9); n != 0 || s != "" || len(l) != 0 {
				t.Errorf("P2.2: behind an error of %s: %d, %q, %v", what, n, s, l)
			}
			holds(t, "P2.3", what+", and on", r, c.err, 2)
		}
	}
}

// An error of a text or list may come when its number was taken: what stands behind that is not taken either, nor is what is wrong there told.
func TestReadStopsInside(t *testing.T) {
	text := func(r *wire.Reader) bool { return r.Text() == "" }
	list := func(r *wire.Reader) bool { return len(r.List(2)) == 0 }
	for _, c := range []struct {
		what, s string
		take    func(r *wire.Reader) bool
		err     api.Errno
		at      int
	}{
		{"a text too long", "\x02\x10\x01\x01\x07\x07", text, api.ErrLong, 0},
		{"a text cut", "\x01\x09\x01\x07\x07", text, api.ErrCut, 2},
		{"a list too long", "\x01\x03\x01\x07\x07", list, api.ErrLong, 0},
		{"a list's second number", "\x01\x02\x01\x07\x01\x00\x07", list, api.ErrLong, 4},
	} {
		r := wire.Read(c.s)
		if !c.take(r) {
			t.Errorf("P2.2: %s: something is told", c.what)
		}
		for range 2 {
			if n := r.Num(); n != 0 {
				t.Errorf("P2.2: behind %s: %d", c.what, n)
			}
			holds(t, "P2.2", c.what, r, c.err, c.at)
		}
	}
}

func TestReadNothing(t *testing.T) {
	holds(t, "P2.3", "no bytes", wire.Read(""), api.OK, 0)
	holds(t, "P2.3", "a zero reader", &wire.Reader{}, api.OK, 0)
	var r *wire.Reader
	for range 2 {
		if n, s, l := r.Num(), r.Text(), r.List(5); n != 0 || s != "" || len(l) != 0 {
			t.Errorf("P2.3: of nil: %d, %q, %v", n, s, l)
		}
		holds(t, "P2.3", "nil", r, api.ErrArg, 0)
	}
}

func TestReadersShareNothing(t *testing.T) {
	s := "\x01\x02\x00\x01\x09"
	a, b := wire.Read(s), wire.Read(s)
	l := a.List(2)
	l[0], l[1] = 7, 7
	if m := b.List(2); !slices.Equal(m, []int{0, 9}) {
		t.Errorf("R5: List: %v", m)
	}
	wire.Read("").Num()
	holds(t, "R6", "another reader's error", a, api.OK, 5)
}
