package mask

import (
	"strconv"
	"strings"

	"roundhouse/api"
)

const (
	comma = ","
	dash  = "-"
)

// Text is the ranges of m, rising, as long as they can be.
func (m Mask) Text() string {
	out := ""
	for first := range m.each {
		if m.Has(first - 1) {
			continue
		}
		if out != "" {
			out += comma
		}
		out += rangeText(first, m.lastOf(first))
	}
	return out
}

// Parse is the mask whose Text s is.
func Parse(s string) (Mask, api.Errno) {
	var m Mask
	least := 0
	for rest, more := s, s != ""; more; {
		var piece string
		piece, rest, more = strings.Cut(rest, comma)
		first, last, ok := ends(piece)
		if !ok || first < least {
			return Mask{}, api.ErrForm
		}
		m = m.Or(span(first, last))
		// A range that began right behind this one would have made this one longer.
		least = last + 2
	}
	return m, api.OK
}

// lastOf is the last core of the range of m that core first is in.
func (m Mask) lastOf(first int) int {
	last := first
	for m.Has(last + 1) {
		last++
	}
	return last
}

// rangeText is the text of a range.
func rangeText(first, last int) string {
	if first == last {
		return strconv.Itoa(first)
	}
	return strconv.Itoa(first) + dash + strconv.Itoa(last)
}

// ends is the first and the last core of the range whose text s is.
func ends(s string) (int, int, bool) {
	low, high, two := strings.Cut(s, dash)
	first, ok := coreOf(low)
	if !two {
		return first, first, ok
	}
	last, good := coreOf(high)
	return first, last, ok && good && first < last
}

// coreOf is the core whose number s is.
func coreOf(s string) (int, bool) {
	n, err := strconv.Atoi(s)
	// Atoi takes a sign, and zeros ahead, too: only what Itoa writes is a core's number.
	if err != nil || !isCore(n) || strconv.Itoa(n) != s {
		return 0, false
	}
	return n, true
}
