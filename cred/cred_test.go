package cred_test

import (
	"math"
	"slices"
	"strings"
	"testing"

	"roundhouse/api"
	"roundhouse/cred"
	"roundhouse/wire"
)

// good is a credential that may be; its Nodes are new memory each time.
func good() api.Cred {
	return api.Cred{Job: 5, Epoch: 1, Step: 300, From: 3, Until: 10, Nodes: []int{0, 2, 15}, Cores: 4}
}

const goodBytes = "\x01\x05\x01\x01\x02\x01\x2c\x01\x03\x01\x0a\x01\x04\x01\x03\x00\x01\x02\x01\x0f"

func same(a, b api.Cred) bool {
	return a.Job == b.Job && a.Epoch == b.Epoch && a.Step == b.Step && a.From == b.From && a.Until == b.Until && a.Cores == b.Cores && slices.Equal(a.Nodes, b.Nodes)
}

// upTo are 0 to n - 1.
func upTo(n int) []int {
	l := make([]int, n)
	for i := range l {
		l[i] = i
	}
	return l
}

// edges are credentials with one field at an edge, of those that may be, and of those that may not.
func edges() (fine, wrong []api.Cred) {
	set := func(out *[]api.Cred, numbers []int, fields ...func(c *api.Cred, n int)) {
		for _, n := range numbers {
			for _, field := range fields {
				c := good()
				field(&c, n)
				*out = append(*out, c)
			}
		}
	}
	epoch, amount := func(c *api.Cred, n int) { c.Epoch = n }, func(c *api.Cred, n int) { c.Cores = n }
	numbers := []func(c *api.Cred, n int){
		func(c *api.Cred, n int) { c.Job = n }, func(c *api.Cred, n int) { c.Step = n },
		func(c *api.Cred, n int) { c.From = n }, func(c *api.Cred, n int) { c.Until = n },
	}
	far := []int{1 << 62, math.MinInt, math.MaxInt}
	set(&fine, []int{0, 1, 255, 256, api.MaxNum - 1, api.MaxNum}, numbers...)
	set(&wrong, append(far, -1, api.MaxNum+1), numbers...)
	set(&fine, upTo(9), epoch)
	set(&wrong, append(far, -1, 9, 256), epoch)
	set(&fine, []int{1, 2, 255, 256}, amount)
	set(&wrong, append(far, -1, 0, 257), amount)
	for _, l := range [][]int{{0}, {15}, {7}, {0, 15}, {14, 15}, {1, 3, 5, 7}, upTo(15), upTo(16)} {
		c := good()
		c.Nodes = l
		fine = append(fine, c)
	}
	for _, l := range wrongNodes() {
		c := good()
		c.Nodes = l
		wrong = append(wrong, c)
	}
	return fine, wrong
}

// wrongNodes are lists of nodes that no credential has.
func wrongNodes() [][]int {
	return [][]int{
		nil, {}, {-1}, {16}, {math.MinInt}, {math.MaxInt}, {0, 0}, {1, 0}, {15, 15}, {0, 2, 1}, {0, 1, 1}, {0, 2, 0}, {3, 2, 1},
		{-1, 0}, {0, 16}, {14, 15, 16}, upTo(17), append(upTo(16), 15), append(upTo(16), 0), make([]int, 17), make([]int, 5000),
	}
}

func TestCheck(t *testing.T) {
	fine, wrong := edges()
	for _, c := range fine {
		if e := cred.Check(c); e != api.OK {
			t.Errorf("P6.1: Check(%v): %d", c, e)
		}
	}
	for _, c := range append(wrong, api.Cred{}) {
		if e := cred.Check(c); e != api.ErrArg {
			t.Errorf("P6.1: Check(%v): %d", c, e)
		}
	}
}

// A credential may end ahead of its beginning, or at it: it allows nothing then, but it may be.
func TestCheckOfNoTime(t *testing.T) {
	for _, c := range []api.Cred{{Nodes: []int{0}, Cores: 1}, {From: 10, Until: 3, Nodes: []int{0}, Cores: 1}} {
		if e := cred.Check(c); e != api.OK {
			t.Errorf("P6.1: Check(%v): %d", c, e)
		}
	}
}

func TestEncodeKnown(t *testing.T) {
	for i, k := range []struct {
		c    api.Cred
		want string
	}{
		{good(), goodBytes},
		{api.Cred{Nodes: []int{0}, Cores: 1}, "\x00\x00\x00\x00\x00\x01\x01\x01\x01\x00"},
		{api.Cred{Job: 1, Epoch: 2, Step: 3, From: 4, Until: 5, Cores: 6, Nodes: []int{7, 8}}, "\x01\x01\x01\x02\x01\x03\x01\x04\x01\x05\x01\x06\x01\x02\x01\x07\x01\x08"},
		{api.Cred{Job: api.MaxNum, Nodes: []int{9}, Cores: 256}, "\x06\x01\x00\x00\x00\x00\x00\x00\x00\x00\x00\x02\x01\x00\x01\x01\x01\x09"},
	} {
		if s := cred.Encode(k.c); s != k.want {
			t.Errorf("P6.1: case %d: %q", i, s)
		}
		if c, e := cred.Decode(k.want); e != api.OK || !same(c, k.c) {
			t.Errorf("P6.1: case %d: %v, %d", i, c, e)
		}
	}
}

// bytesOf is what Encode would tell of c, may it be or not, as long as wire can write it.
func bytesOf(c api.Cred) string {
	s := ""
	for _, n := range []int{c.Job, c.Epoch, c.Step, c.From, c.Until, c.Cores} {
		s += wire.Num(n)
	}
	return s + wire.List(c.Nodes)
}

func TestEncodeEdges(t *testing.T) {
	fine, wrong := edges()
	for _, c := range fine {
		s := cred.Encode(c)
		if s != bytesOf(c) {
			t.Errorf("P6.1: Encode(%v): %q", c, s)
		}
		if k, e := cred.Decode(s); e != api.OK || !same(c, k) {
			t.Errorf("P6.1: Decode(%q): %v, %d", s, k, e)
		}
	}
	for _, c := range append(wrong, api.Cred{}) {
		if s := cred.Encode(c); s != "" {
			t.Errorf("P6.1: Encode(%v): %q", c, s)
		}
	}
}

// fails checks that a text is no credential's, with that error.
func fails(t *testing.T, s string, want api.Errno) {
	t.Helper()
	if c, e := cred.Decode(s); e != want || !same(c, api.Cred{}) || len(c.Nodes) != 0 {
		t.Errorf("P6.1: Decode(%q): %v, %d, not %d", s, c, e, want)
	}
}

func TestDecodeForm(t *testing.T) {
	numbers := func(c api.Cred) bool {
		for _, n := range append([]int{c.Job, c.Epoch, c.Step, c.From, c.Until, c.Cores}, c.Nodes...) {
			if n < 0 || n > api.MaxNum {
				return false
			}
		}
		return len(c.Nodes) <= 16
	}
	_, wrong := edges()
	n := 0
	for _, c := range append(wrong, api.Cred{}) {
		if numbers(c) {
			fails(t, bytesOf(c), api.ErrForm)
			n++
		}
	}
	if n < 10 {
		t.Errorf("only %d texts were tried", n)
	}
}

// What the reader finds wrong counts ahead of what no credential is, wherever it stands.
func TestDecodeReaderFirst(t *testing.T) {
	head := wire.Num(5) + wire.Num(9) + wire.Num(0) + wire.Num(0) + wire.Num(0) + wire.Num(0) // an Epoch and Cores of none
	for _, c := range []struct {
		s    string
		want api.Errno
	}{
		{"", api.ErrCut}, {"\x01", api.ErrCut}, {"\x07", api.ErrLong}, {"\x01\x00", api.ErrLong},
		{head, api.ErrCut},
		{head + wire.List([]int{0}), api.ErrForm},
		{head + wire.List([]int{0}) + "\x00", api.ErrLeft},
		{head + wire.List(nil) + "x", api.ErrLeft},
		{head + wire.List(upTo(16)), api.ErrForm},
		{head + wire.List(upTo(17)), api.ErrLong},
		{head + wire.List(make([]int, 17)) + "x", api.ErrLong},
		{head + wire.Num(17), api.ErrLong},
		{head + wire.Num(api.MaxNum), api.ErrLong},
		{head + "\x07" + strings.Repeat("\x01", 7), api.ErrLong},
		{head + "\x01\x02\x00", api.ErrCut},
		{head + "\x01\x02\x00\x01", api.ErrCut},
		{head + "\x01\x02\x00\x01\x00", api.ErrLong},
		{head + "\x01\x01\x06\x01\x00\x00\x00\x00\x01", api.ErrLong},
		{head + "\x01\x00\x01\x02", api.ErrLong},
	} {
		fails(t, c.s, c.want)
	}
	if c, e := cred.Decode(wire.Num(0) + wire.Num(0) + wire.Num(0) + wire.Num(0) + wire.Num(0) + wire.Num(1) + wire.List(upTo(16))); e != api.OK || len(c.Nodes) != 16 {
		t.Errorf("P6.1: Decode with 16 nodes: %v, %d", c, e)
	}
}

func TestDecodeCutAnywhere(t *testing.T) {
	for i := range len(goodBytes) {
		fails(t, goodBytes[:i], api.ErrCut)
	}
	for _, left := range []string{"\x00", "x", goodBytes} {
		fails(t, goodBytes+left, api.ErrLeft)
	}
}

// Each byte of a credential, put to each value: what is taken is the bytes of what is told.
func TestDecodeOneWay(t *testing.T) {
	taken := 0
	for i := range len(goodBytes) {
		for b := range 256 {
			s := goodBytes[:i] + string([]byte{byte(b)}) + goodBytes[i+1:]
			c, e := cred.Decode(s)
			if e != api.OK {
				fails(t, s, e)
				continue
			}
			taken++
			if cred.Check(c) != api.OK || cred.Encode(c) != s {
				t.Errorf("P6.1: Decode(%q): %v", s, c)
			}
		}
	}
	if taken < 256 {
		t.Errorf("only %d texts were taken", taken)
	}
}

func TestNothingIsKeptOrChanged(t *testing.T) {
	c := good()
	s := cred.Sign("key", c)
	cred.Check(c)
	cred.Encode(c)
	cred.Allows(c, cred.Ask{Node: 2})
	if !same(c, good()) {
		t.Errorf("R5: the credential is %v now", c)
	}
	first, _ := cred.Open("key", s)
	first.Nodes[0] = 9
	if again, e := cred.Open("key", s); e != api.OK || !same(again, good()) {
		t.Errorf("R5: Open: %v, %d", again, e)
	}
	if cred.Sign("key", c) != s {
		t.Error("R6: the same again is not the same")
	}
}
