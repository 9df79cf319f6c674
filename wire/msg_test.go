package wire_test

import (
	"math"
	"slices"
	"strings"
	"testing"

	"roundhouse/api"
	"roundhouse/wire"
)

// parts is what a message's bytes are made of, one by one.
type parts struct {
	nums [7]int
	text string
}

func (p parts) bytes() string {
	s := ""
	for _, n := range p.nums {
		s += wire.Num(n)
	}
	return s + wire.Text(p.text)
}

func TestEncode(t *testing.T) {
	for _, c := range []struct {
		m    api.Msg
		want string
	}{
		{api.Msg{}, "\x00\x01\x01\x01\x01\x00\x00\x00\x00\x00"},
		{api.Msg{Kind: api.MsgGone, From: -1, To: 15, Job: 1, Epoch: 2, Step: 3, Arg: 300, Text: "x"}, "\x01\x09\x00\x01\x10\x01\x01\x01\x02\x01\x03\x02\x01\x2c\x01\x01x"},
		{api.Msg{Kind: api.MsgReady, From: 15, To: -1, Job: 4, Epoch: 5, Step: 6, Arg: 7, Text: "\xff\x00"}, "\x01\x01\x01\x10\x00\x01\x04\x01\x05\x01\x06\x01\x07\x01\x02\xff\x00"},
	} {
		if got := wire.Encode(c.m); got != c.want {
			t.Errorf("P2.4: Encode(%v): %q, not %q", c.m, got, c.want)
		}
		if m, e := wire.Decode(c.want); m != c.m || e != api.OK {
			t.Errorf("P2.4: Decode(%q): %v, %d", c.want, m, e)
		}
	}
}

// edges are messages with one field at an edge, of those that may be, and of those that may not.
func edges() (fine, wrong []api.Msg) {
	for _, n := range []int{0, 9} {
		fine = append(fine, api.Msg{Kind: n})
	}
	for _, n := range []int{-1, 10, math.MinInt, math.MaxInt} {
		wrong = append(wrong, api.Msg{Kind: n})
	}
	for _, n := range []int{-1, 0, 15} {
		fine = append(fine, api.Msg{From: n}, api.Msg{To: n})
	}
	for _, n := range []int{-2, 16, math.MinInt, math.MaxInt} {
		wrong = append(wrong, api.Msg{From: n}, api.Msg{To: n})
	}
	for _, n := range []int{0, 1, api.MaxNum} {
		fine = append(fine, api.Msg{Job: n}, api.Msg{Epoch: n}, api.Msg{Step: n}, api.Msg{Arg: n})
	}
	for _, n := range []int{-1, api.MaxNum + 1, math.MinInt, math.MaxInt} {
		wrong = append(wrong, api.Msg{Job: n}, api.Msg{Epoch: n}, api.Msg{Step: n}, api.Msg{Arg: n})
	}
	fine = append(fine, api.Msg{Text: strings.Repeat("x", 4096)})
	wrong = append(wrong, api.Msg{Text: strings.Repeat("x", 4097)})
	return fine, wrong
}

func TestEncodeEdges(t *testing.T) {
	fine, wrong := edges()
	for _, m := range fine {
		want := parts{[7]int{m.Kind, m.From + 1, m.To + 1, m.Job, m.Epoch, m.Step, m.Arg}, m.Text}.bytes()
		if got := wire.Encode(m); got != want {
			t.Errorf("P2.4: Encode(%v): %q", m, got)
		}
		if k, e := wire.Decode(want); k != m || e != api.OK {
			t.Errorf("P2.4: Decode(%q): %v, %d", want, k, e)
		}
	}
	for _, m := range wrong {
		if got := wire.Encode(m); got != "" {
			t.Errorf("P2.4: Encode(%v): %q", m, got)
		}
	}
}

func TestDecodeForm(t *testing.T) {
	for _, p := range []parts{
		{nums: [7]int{10}}, {nums: [7]int{api.MaxNum}}, {nums: [7]int{0, 17}}, {nums: [7]int{0, api.MaxNum}},
		{nums: [7]int{0, 0, 17}}, {nums: [7]int{0, 0, api.MaxNum}}, {nums: [7]int{10, 17, 17}},
	} {
		if m, e := wire.Decode(p.bytes()); m != (api.Msg{}) || e != api.ErrForm {
			t.Errorf("P2.4: Decode of %v: %v, %d", p, m, e)
		}
	}
}

// What the reader finds wrong counts ahead of what no message has, wherever it stands.
func TestDecodeReaderFirst(t *testing.T) {
	bad := parts{nums: [7]int{10, 17, 17}}.bytes()
	for _, c := range []struct {
		s    string
		want api.Errno
	}{
		{"", api.ErrCut},
		{bad + "x", api.ErrLeft},
		{bad[:len(bad)-1], api.ErrCut},
		{bad[:len(bad)-1] + "\x01\x00", api.ErrLong},
		{bad[:len(bad)-1] + "\x02\x10\x01" + strings.Repeat("x", 4097), api.ErrLong},
		{bad[:len(bad)-1] + "\x01\x01", api.ErrCut},
		{"\x07" + bad[2:], api.ErrLong},
		{"\x01\x00" + bad[2:], api.ErrLong},
		{"\x06\x01\x00\x00\x00\x00\x01" + bad[2:], api.ErrLong},
	} {
		if m, e := wire.Decode(c.s); m != (api.Msg{}) || e != c.want {
			t.Errorf("P2.4: Decode(%q): %v, %d, not %d", c.s, m, e, c.want)
		}
	}
}

func TestDecodeCutAnywhere(t *testing.T) {
	s := wire.Encode(api.Msg{Kind: 2, From: -1, To: 3, Job: 70000, Epoch: 2, Step: 3, Arg: 300, Text: "order"})
	for i := range len(s) {
		if m, e := wire.Decode(s[:i]); m != (api.Msg{}) || e != api.ErrCut {
			t.Errorf("P2.4: Decode of %d of %d bytes: %v, %d", i, len(s), m, e)
		}
	}
	for _, left := range []string{"\x00", "x", s} {
		if m, e := wire.Decode(s + left); m != (api.Msg{}) || e != api.ErrLeft {
			t.Errorf("P2.4: Decode with %q left: %v, %d", left, m, e)
		}
	}
}

func TestWrittenIsRead(t *testing.T) {
	var nums []int
	for i := range 41 {
		nums = append(nums, max(0, 1<<i-1), 1<<i, min(api.MaxNum, 1<<i+1))
	}
	for _, n := range nums {
		s := wire.Num(n)
		r := wire.Read(s)
		if got := r.Num(); got != n {
			t.Errorf("P2.5: %d: %d", n, got)
		}
		holds(t, "P2.5", "Num", r, api.OK, len(s))
	}
	for n := range 4097 {
		text := strings.Repeat("\xc3", n)
		s := wire.Text(text)
		r := wire.Read(s)
		if r.Text() != text {
			t.Errorf("P2.5: a text of %d bytes", n)
		}
		holds(t, "P2.5", "Text", r, api.OK, len(s))
	}
	for n := range len(nums) + 1 {
		s := wire.List(nums[:n])
		r := wire.Read(s)
		if got := r.List(n); !slices.Equal(got, nums[:n]) {
			t.Errorf("P2.5: %v: %v", nums[:n], got)
		}
		holds(t, "P2.5", "List", r, api.OK, len(s))
	}
	whole := make([]int, 4096)
	if r := wire.Read(wire.List(whole)); !slices.Equal(r.List(4096), whole) {
		t.Error("P2.5: a list of 4096")
	}
}

// each tells all texts of at most n bytes out of some.
func each(n int, bytes string, tell func(string)) {
	var grow func(s string)
	grow = func(s string) {
		tell(s)
		if len(s) == n {
			return
		}
		for i := range len(bytes) {
			grow(s + bytes[i:i+1])
		}
	}
	grow("")
}

func TestOneWayToWrite(t *testing.T) {
	each(7, "\x00\x01\x02\x06\x07\xff", func(s string) {
		r := wire.Read(s)
		n := r.Num()
		if e, at := r.End(); (e == api.OK || e == api.ErrLeft) && wire.Num(n) != s[:at] {
			t.Errorf("P2.5: Num of %q: %d", s, n)
		}
		r = wire.Read(s)
		text := r.Text()
		if e, at := r.End(); (e == api.OK || e == api.ErrLeft) && wire.Text(text) != s[:at] {
			t.Errorf("P2.5: Text of %q: %q", s, text)
		}
		r = wire.Read(s)
		l := r.List(4096)
		if e, at := r.End(); (e == api.OK || e == api.ErrLeft) && wire.List(l) != s[:at] {
			t.Errorf("P2.5: List of %q: %v", s, l)
		}
	})
}

// Each byte of a message is put to all others: what is read must be what was written so.
func TestOneWayToWriteMessages(t *testing.T) {
	s := wire.Encode(api.Msg{Kind: 2, From: -1, To: 3, Job: 300, Epoch: 1, Step: 0, Arg: api.MaxNum, Text: "ab"})
	read := 0
	for i := range len(s) {
		for b := range 256 {
			x := s[:i] + string([]byte{byte(b)}) + s[i+1:]
			m, e := wire.Decode(x)
			if e == api.OK {
				read++
			}
			if e == api.OK && wire.Encode(m) != x || e != api.OK && m != (api.Msg{}) {
				t.Errorf("P2.5: Decode(%q): %v, %d", x, m, e)
			}
		}
	}
	if read < 1000 {
		t.Errorf("P2.5: only %d of these are messages", read)
	}
}
