package journal_test

import (
	"crypto/sha256"
	"math"
	"strings"
	"testing"

	"roundhouse/api"
	"roundhouse/journal"
)

// tagged is a body, and behind it the first four bytes of its digest, by the library's own means.
func tagged(body string) string {
	sum := sha256.Sum256([]byte(body))
	return body + string(sum[:4])
}

// text is n bytes that are not all the same.
func text(n int) string {
	return strings.Repeat("Jx\x00\x01\xff", n/5+1)[:n]
}

// wrongKinds are kinds of no record: some of them would be 0 or 1 as a byte.
func wrongKinds() []int {
	return []int{-1, 2, 3, 74, 255, 256, 257, -255, -256, math.MinInt, math.MaxInt, 1 << 32, 1<<32 + 1}
}

// wrongTexts are texts of no record.
func wrongTexts() []string {
	return []string{text(4097), text(5000), text(70000)}
}

func TestRecordKnown(t *testing.T) {
	for _, k := range []struct {
		kind       int
		text, body string
	}{
		{0, "", "\x4a\x00\x00"}, {1, "", "\x4a\x01\x00"}, {0, "a", "\x4a\x00\x01\x01a"}, {1, "ab", "\x4a\x01\x01\x02ab"},
		{0, "\x00\xff", "\x4a\x00\x01\x02\x00\xff"}, {0, text(255), "\x4a\x00\x01\xff" + text(255)}, {1, text(256), "\x4a\x01\x02\x01\x00" + text(256)},
		{0, text(4095), "\x4a\x00\x02\x0f\xff" + text(4095)}, {1, text(4096), "\x4a\x01\x02\x10\x00" + text(4096)},
	} {
		if r := journal.Record(k.kind, k.text); r != tagged(k.body) {
			t.Errorf("P8.1: Record(%d, %q): %q", k.kind, k.text, r)
		}
	}
	if r := journal.Record(0, ""); len(r) != 7 || r[:3] != "\x4a\x00\x00" {
		t.Errorf("P8.1: Record(0, nothing): %q", r)
	}
}

func TestRecordOfNone(t *testing.T) {
	for _, s := range append(wrongTexts(), "", "a", text(4096)) {
		for _, kind := range wrongKinds() {
			if r := journal.Record(kind, s); r != "" {
				t.Errorf("P8.1: Record(%d, of %d bytes): %q", kind, len(s), r)
			}
		}
	}
	for _, s := range wrongTexts() {
		if journal.Record(0, s) != "" || journal.Record(1, s) != "" {
			t.Errorf("P8.1: Record of %d bytes", len(s))
		}
	}
}

// logs are logs that are good, torn, and none at all.
func logs() []string {
	good := journal.Record(0, "a") + journal.Record(1, "s") + journal.Record(0, "")
	return []string{"", "x", "J", good, good[:len(good)-1], good + "J\x00", text(10000)}
}

func TestAppend(t *testing.T) {
	appends := func(log string, kind int, s, want string, err api.Errno) {
		t.Helper()
		if l, e := journal.Append(log, kind, s); e != err || l != want {
			t.Errorf("P8.1: Append(%q, %d, of %d bytes): %q, %d", log, kind, len(s), l, e)
		}
	}
	for _, log := range logs() {
		for _, s := range []string{"", "a", text(300), text(4096)} {
			appends(log, 0, s, log+journal.Record(0, s), api.OK)
			appends(log, 1, s, log+journal.Record(1, s), api.OK)
		}
		for _, s := range wrongTexts() {
			appends(log, 0, s, log, api.ErrLong)
			appends(log, 1, s, log, api.ErrLong)
		}
		for _, kind := range wrongKinds() {
			appends(log, kind, "", log, api.ErrArg)
			appends(log, kind, text(4097), log, api.ErrArg)
		}
	}
}

func TestTear(t *testing.T) {
	tears := func(log string, kind int, s string, k int, want string) {
		t.Helper()
		if l := journal.Tear(log, kind, s, k); l != want {
			t.Errorf("P8.1: Tear(%q, %d, %q, %d): %q, not %q", log, kind, s, k, l, want)
		}
	}
	for _, log := range logs() {
		for kind := range 2 {
			for _, s := range []string{"", "a", text(40)} {
				record := journal.Record(kind, s)
				for k := range len(record) {
					tears(log, kind, s, k, log+record[:k])
				}
				for _, k := range []int{len(record), len(record) + 1, 1 << 40, math.MaxInt} {
					tears(log, kind, s, k, log+record)
				}
				for _, k := range []int{-1, -2, -len(record), math.MinInt} {
					tears(log, kind, s, k, log)
				}
			}
			tears(log, kind, text(4097), 5, log)
		}
		for _, kind := range wrongKinds() {
			tears(log, kind, "a", 5, log)
			tears(log, kind, "a", math.MaxInt, log)
		}
	}
}

func TestCompact(t *testing.T) {
	for _, log := range logs() {
		for _, s := range []string{"", "z", text(300), text(4096)} {
			l := journal.Compact(log, s)
			if l != journal.Record(1, s) {
				t.Errorf("P8.3: Compact(%q, of %d bytes): %q", log, len(s), l)
			}
			if got, n := journal.Read(l); len(got) != 1 || got[0] != (journal.Entry{Kind: 1, Text: s}) || n != len(l) {
				t.Errorf("P8.3: Compact, then Read: %v, %d", got, n)
			}
		}
		for _, s := range wrongTexts() {
			if l := journal.Compact(log, s); l != log {
				t.Errorf("P8.3: Compact(%q, of %d bytes): %q", log, len(s), l)
			}
		}
	}
}
