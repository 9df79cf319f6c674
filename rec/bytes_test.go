package rec_test

import (
	"math"
	"slices"
	"strings"
	"testing"

	"roundhouse/api"
	"roundhouse/rec"
)

const most = 1 << 40

// upTo is 1 to n.
func upTo(n int) []int {
	var l []int
	for i := range n {
		l = append(l, i+1)
	}
	return l
}

func sameRec(a, b api.Rec) bool {
	return a.Kind == b.Kind && a.Job == b.Job && a.Epoch == b.Epoch && a.Step == b.Step && a.Arg == b.Arg && slices.Equal(a.List, b.List)
}

// mayNotBe is records that may not be, each for one thing.
func mayNotBe() []api.Rec {
	l := []api.Rec{
		{Kind: -1}, {Kind: 8}, {Kind: math.MinInt}, {Kind: math.MaxInt},
		{Arg: -1}, {Arg: 256}, {Arg: math.MinInt}, {Arg: math.MaxInt},
		{Kind: rec.Held}, {Kind: rec.Held, List: []int{}}, {Kind: rec.Held, List: upTo(257)}, {Kind: rec.Held, List: upTo(5000)},
	}
	for _, n := range []int{-1, most + 1, math.MinInt, math.MaxInt} {
		l = append(l, api.Rec{Job: n}, api.Rec{Epoch: n}, api.Rec{Step: n}, api.Rec{Kind: rec.Void, Job: n})
	}
	for _, list := range [][]int{{0}, {-1}, {most + 1}, {0, 1}, {1, 1}, {2, 1}, {1, 3, 2}, {1, 2, 2}, {5, most + 1}, {5, math.MaxInt}, {5, math.MinInt}} {
		l = append(l, api.Rec{Kind: rec.Held, List: list})
	}
	for kind := range 8 {
		if kind != rec.Held {
			l = append(l, api.Rec{Kind: kind, List: []int{1}}, api.Rec{Kind: kind, List: []int{0}})
		}
	}
	return l
}

func TestConstants(t *testing.T) {
	kinds := []int{rec.Prolog, rec.Held, rec.Refused, rec.Released, rec.Aborted, rec.Ended, rec.Epilog, rec.Void}
	phases := []int{rec.JobUp, rec.JobFailed, rec.JobGone, rec.StepHeld, rec.StepRuns, rec.StepAborted, rec.StepEnded}
	if !slices.Equal(kinds, []int{0, 1, 2, 3, 4, 5, 6, 7}) || !slices.Equal(phases, []int{0, 1, 2, 0, 1, 2, 3}) {
		t.Errorf("P15.2: %v, %v", kinds, phases)
	}
}

// written is records that may be, with their bytes.
func written() map[string]api.Rec {
	all := map[string]api.Rec{
		"\x00\x00\x00\x00\x00\x00":                                 {},
		"\x01\x07\x00\x00\x00\x00\x00":                             {Kind: rec.Void},
		"\x01\x05\x01\x01\x01\x02\x01\x03\x01\x04\x00":             {Kind: rec.Ended, Job: 1, Epoch: 2, Step: 3, Arg: 4},
		"\x00\x02\x01\x2c\x00\x00\x01\xff\x00":                     {Job: 300, Arg: 255},
		"\x01\x01\x00\x00\x00\x00\x01\x01\x01\x01":                 {Kind: rec.Held, List: []int{1}},
		"\x01\x01\x01\x09\x00\x00\x01\x07\x01\x02\x01\x04\x01\x80": {Kind: rec.Held, Job: 9, Arg: 7, List: []int{4, 128}},
	}
	top := "\x06\x01\x00\x00\x00\x00\x00"
	all["\x01\x06"+strings.Repeat(top, 3)+"\x00\x00"] = api.Rec{Kind: rec.Epilog, Job: most, Epoch: most, Step: most}
	all["\x01\x01\x00\x00\x00\x00\x01\x02\x01\x01"+top] = api.Rec{Kind: rec.Held, List: []int{1, most}}
	long := "\x01\x01\x00\x00\x00\x00\x02\x01\x00"
	for n := 1; n < 256; n++ {
		long += string([]byte{1, byte(n)})
	}
	all[long+"\x02\x01\x00"] = api.Rec{Kind: rec.Held, List: upTo(256)}
	for kind := 2; kind < 8; kind++ {
		all[string([]byte{1, byte(kind), 1, 1, 0, 1, 2, 0, 0})] = api.Rec{Kind: kind, Job: 1, Step: 2}
	}
	return all
}

func TestBytes(t *testing.T) {
	for s, r := range written() {
		if got := rec.Encode(r); got != s {
			t.Errorf("P15.1: Encode(%v) = %q, want %q", r, got, s)
		}
		if got, e := rec.Decode(s); e != api.OK || !sameRec(got, r) {
			t.Errorf("P15.1: Decode(%q) = %v, %d, want %v", s, got, e, r)
		}
	}
	if s := rec.Encode(api.Rec{Kind: rec.Epilog, List: []int{}}); s != "\x01\x06\x00\x00\x00\x00\x00" {
		t.Errorf("P15.1: of an empty list: %q", s)
	}
}

func TestMayNotBe(t *testing.T) {
	for i, r := range mayNotBe() {
		if s := rec.Encode(r); s != "" {
			t.Errorf("P15.1: case %d: Encode(%v) = %q", i, r, s)
		}
		if s, e := rec.Apply(rec.State{}, r); e != api.ErrArg || !same(s, rec.State{}) {
			t.Errorf("P15.2: case %d: Apply of %v = %v, %d, want %d", i, r, s, e, api.ErrArg)
		}
		// What may not be is told ahead of what may not come.
		drained := rec.State{Jobs: []rec.Job{{Job: 0, Epoch: 9}}, Drained: true}
		if s, e := rec.Apply(drained, r); e != api.ErrArg || !same(s, drained) {
			t.Errorf("P15.2: case %d: Apply of %v = %v, %d, want %d", i, r, s, e, api.ErrArg)
		}
		if s, n := rec.Fold([]api.Rec{{Job: 5}, r, {Job: 6}}); n != 1 || len(s.Jobs) != 1 {
			t.Errorf("P15.3: case %d: Fold of %v = %v, %d", i, r, s, n)
		}
	}
}

// isNothing fails unless s is told as no record, by that error.
func isNothing(t *testing.T, s string, want api.Errno) {
	t.Helper()
	if r, e := rec.Decode(s); e != want || !sameRec(r, api.Rec{}) {
		t.Errorf("P15.1: Decode(%q) = %v, %d, want none, %d", s, r, e, want)
	}
}

func TestCutAndLeft(t *testing.T) {
	for s := range written() {
		for n := range len(s) {
			isNothing(t, s[:n], api.ErrCut)
		}
		isNothing(t, s+"\x00", api.ErrLeft)
		isNothing(t, s+s, api.ErrLeft)
	}
}

func TestDecodeWrong(t *testing.T) {
	list := "\x01\x01\x00\x00\x00\x00"
	for s, want := range map[string]api.Errno{
		"":                                 api.ErrCut,
		"\x07\x01\x01":                     api.ErrLong,
		"\x02\x00\x01\x00\x00\x00\x00\x00": api.ErrLong,
		"\x00\x06\x01\x00\x00\x00\x00\x01\x00\x00\x00\x00": api.ErrLong, // one more than 2^40
		"\x01\x08\x00\x00\x00\x00\x00":                     api.ErrForm,
		"\x02\x01\x00\x00\x00\x00\x00\x00":                 api.ErrForm,
		"\x00\x00\x00\x00\x02\x01\x00\x00":                 api.ErrForm, // Arg 256
		"\x00\x00\x00\x00\x00\x01\x01\x01\x01":             api.ErrForm, // a Prolog's list
		"\x01\x07\x00\x00\x00\x00\x01\x01\x01\x01":         api.ErrForm,
		list + "\x00":                                       api.ErrForm, // none
		list + "\x01\x01\x00":                               api.ErrForm, // 0
		list + "\x01\x02\x01\x02\x01\x02":                   api.ErrForm,
		list + "\x01\x02\x01\x03\x01\x02":                   api.ErrForm,
		list + "\x01\x02\x00\x01\x02":                       api.ErrForm,
		list + "\x02\x01\x01":                               api.ErrLong, // 257, whether they are there or not
		list + "\x02\x01\x01" + strings.Repeat("\x00", 257): api.ErrLong,
		"\x00\x00\x00\x00\x00\x02\x01\x01":                  api.ErrLong,
		list + "\x02\x01\x00":                               api.ErrCut, // 256 that are not there
		list + "\x02\x01\x00" + strings.Repeat("\x00", 256): api.ErrForm,
		// The reader's error goes ahead of the form.
		"\x01\x08\x00\x00\x00\x00":         api.ErrCut,
		"\x01\x08\x00\x00\x00\x00\x00\x00": api.ErrLeft,
		list + "\x00\x01":                  api.ErrLeft,
		"\x01\x08\x00\x00\x00\x00\x07":     api.ErrLong,
	} {
		isNothing(t, s, want)
	}
}

// TestOneWay decodes bytes with one of them changed: what is told is told of its own bytes alone.
func TestOneWay(t *testing.T) {
	for s := range written() {
		if len(s) > 40 {
			continue
		}
		for at := range len(s) {
			for b := range 256 {
				x := s[:at] + string([]byte{byte(b)}) + s[at+1:]
				r, e := rec.Decode(x)
				if e == api.OK && rec.Encode(r) != x || e != api.OK && !sameRec(r, api.Rec{}) {
					t.Errorf("P15.1: Decode(%q) = %v, %d", x, r, e)
				}
			}
		}
	}
}
