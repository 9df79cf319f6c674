package mask_test

import (
	"fmt"
	"strings"
	"testing"

	"roundhouse/api"
	"roundhouse/mask"
)

// wantText goes core by core from the last one down, so that it shares no way of going with the program.
func wantText(m mask.Mask) string {
	out := ""
	for last := 255; last >= 0; last-- {
		if !bit(m, last) {
			continue
		}
		first := last
		for first > 0 && bit(m, first-1) {
			first--
		}
		piece := fmt.Sprint(last)
		if first < last {
			piece = fmt.Sprintf("%d-%d", first, last)
		}
		if out != "" {
			piece += ","
		}
		out, last = piece+out, first
	}
	return out
}

// holdsText checks that a mask has that text, and the text that mask.
func holdsText(t *testing.T, promise string, m mask.Mask, s string) {
	t.Helper()
	if got := m.Text(); got != s {
		t.Errorf("%s: Text of %v: %q, not %q", promise, m, got, s)
	}
	if got, e := mask.Parse(s); got != m || e != api.OK {
		t.Errorf("%s: Parse(%q): %v, %d", promise, s, got, e)
	}
}

func TestTextKnown(t *testing.T) {
	for _, c := range []struct {
		m mask.Mask
		s string
	}{
		{mask.Mask{}, ""}, {mask.Mask{1}, "0"}, {mask.Mask{3}, "0-1"}, {mask.Mask{5}, "0,2"}, {mask.Mask{38}, "1-2,5"},
		{mask.Mask{0x77e}, "1-6,8-10"}, {mask.Mask{1 << 63, 1}, "63-64"}, {mask.Mask{1 << 63, 2}, "63,65"},
		{mask.Mask{0, full, full}, "64-191"}, {mask.Mask{0, 0, 0, 1 << 63}, "255"}, {mask.Mask{0, 0, 0, 3 << 62}, "254-255"},
		{mask.Mask{1, 0, 0, 1 << 63}, "0,255"}, {mask.Mask{full, full, full, full}, "0-255"},
		{mask.Mask{full, full, full, full >> 1}, "0-254"}, {mask.Mask{full - 1, full, full, full}, "1-255"},
	} {
		holdsText(t, "P3.3", c.m, c.s)
	}
}

func TestTextOfEachRange(t *testing.T) {
	for first := range 256 {
		var m mask.Mask
		for last := first; last < 256; last++ {
			m[last/64] |= 1 << (last % 64)
			holdsText(t, "P3.3", m, wantText(m))
		}
	}
}

func TestTextsComeBack(t *testing.T) {
	for _, m := range samples() {
		holdsText(t, "P3.4", m, wantText(m))
	}
}

func TestParseWrong(t *testing.T) {
	for _, s := range []string{
		",", ",1", "1,", "1,,3", "-", "--", "-1", "1-", "1--3", "1-3-5", "1-3-", "-1-3", "1-,3", "1,-3",
		"1-1", "0-0", "255-255", "2-1", "255-0",
		"1,2", "1-2,3", "1,2-3", "1-2,3-4", "254,255", "63,64",
		"3,1", "3,3", "1-3,2", "1-3,3", "1-3,3-5", "4-5,1-2", "1-2,1-2",
		"256", "0-256", "255-256", "256-257", "1000", "4294967296", "4294967297", "18446744073709551616", "18446744073709551617", "99999999999999999999", "0-99999999999999999999",
		"00", "01", "001", "1-02", "01-2", "0-00", "0255",
		"+1", "1-+3", "+1-3", " 1", "1 ", "1, 3", "1 ,3", "1 -3", "1\n", "\t1", " ", "\x00", "1\x00",
		"x", "1x", "x1", "0x1", "1e1", "1_0", "1.0", "1;3", "1:3", "1–3", "١", "all", "1,x", "1-x",
		strings.Repeat("1", 10000), strings.Repeat("1,", 10000), strings.Repeat(",", 10000), strings.Repeat("-", 10000), "1-" + strings.Repeat("0", 10000),
	} {
		if m, e := mask.Parse(s); m != (mask.Mask{}) || e != api.ErrForm {
			t.Errorf("P3.3: Parse(%.40q): %v, %d", s, m, e)
		}
	}
}

// shortTexts are all texts of masks that have at most five signs, and some longer ones.
func shortTexts() map[string]bool {
	texts := map[string]bool{"": true}
	for w := range uint64(1 << 10) {
		texts[wantText(mask.Mask{w})] = true
	}
	// Where a core has two digits, five signs are a range, or two cores, at most.
	for first := range 256 {
		var run mask.Mask
		for last := first; last < 256; last++ {
			run[last/64] |= 1 << (last % 64)
			texts[wantText(run)] = true
			var two mask.Mask
			two[first/64] |= 1 << (first % 64)
			two[last/64] |= 1 << (last % 64)
			texts[wantText(two)] = true
		}
	}
	return texts
}

// A text is a mask's only if that mask's own text is it: all short texts of the signs that make one up are held against this.
func TestParseShortTexts(t *testing.T) {
	const signs = "0125,-+ "
	texts := shortTexts()
	var try func(s string)
	try = func(s string) {
		m, e := mask.Parse(s)
		if texts[s] && (e != api.OK || wantText(m) != s) {
			t.Errorf("P3.3: Parse(%q): %v, %d", s, m, e)
		}
		if !texts[s] && (e != api.ErrForm || m != mask.Mask{}) {
			t.Errorf("P3.3: Parse(%q): %v, %d, but it is no mask's text", s, m, e)
		}
		if len(s) < 5 {
			for i := range len(signs) {
				try(s + signs[i:i+1])
			}
		}
	}
	try("")
}

// What stands in a text may be spoilt at each place: it comes back as another mask, whose text it is, or not at all.
func TestParseSpoilt(t *testing.T) {
	for _, m := range samples()[:30] {
		s := m.Text()
		for i := range len(s) {
			for _, by := range []string{"", ",", "-", "0", "9", "x", s[i:i+1] + s[i:i+1]} {
				spoilt := s[:i] + by + s[i+1:]
				got, e := mask.Parse(spoilt)
				if e == api.OK && wantText(got) != spoilt || e != api.OK && (e != api.ErrForm || got != mask.Mask{}) {
					t.Errorf("P3.3: Parse(%q): %v, %d", spoilt, got, e)
				}
			}
		}
	}
}
