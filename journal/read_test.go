package journal_test

import (
	"slices"
	"strings"
	"testing"

	"roundhouse/journal"
)

// written is a log of entries.
func written(entries []journal.Entry) string {
	log := ""
	for _, e := range entries {
		log += journal.Record(e.Kind, e.Text)
	}
	return log
}

// since is the entries from the last snapshot on.
func since(entries []journal.Entry) []journal.Entry {
	var out []journal.Entry
	for _, e := range entries {
		if e.Kind == 1 {
			out = nil
		}
		out = append(out, e)
	}
	return out
}

// says checks all that a log tells: these entries, and that it is good up to a place.
func says(t *testing.T, log string, entries []journal.Entry, good int) {
	t.Helper()
	if got, n := journal.Read(log); n != good || !slices.Equal(got, entries) {
		t.Errorf("P8.2: Read(%.40q): %d entries, %d, not %d entries, %d", log, len(got), n, len(entries), good)
	}
	if r := journal.Repair(log); r != log[:good] {
		t.Errorf("P8.2: Repair(%.40q): %d bytes, not %d", log, len(r), good)
	}
	if got := journal.Since(log); !slices.Equal(got, since(entries)) {
		t.Errorf("P8.2: Since(%.40q): %d entries, not %d", log, len(got), len(since(entries)))
	}
}

// some are entries of both kinds, and of texts short, long, and like records themselves.
func some() []journal.Entry {
	return []journal.Entry{
		{Kind: 0, Text: "a"}, {Kind: 1, Text: "s"}, {Kind: 0, Text: ""}, {Kind: 1, Text: ""}, {Kind: 0, Text: text(256)},
		{Kind: 0, Text: journal.Record(1, "inside")}, {Kind: 0, Text: text(4096)}, {Kind: 0, Text: "z"},
	}
}

func TestReadWhatWasAppended(t *testing.T) {
	all := some()
	log := ""
	for i, e := range all {
		log, _ = journal.Append(log, e.Kind, e.Text)
		says(t, log, all[:i+1], len(log))
	}
	says(t, "", nil, 0)
}

func TestSinceSnapshots(t *testing.T) {
	for bits := range 64 {
		var all []journal.Entry
		for i := range 6 {
			all = append(all, journal.Entry{Kind: bits >> i & 1, Text: text(i)})
			says(t, written(all), all, len(written(all)))
		}
	}
	a, s, b := journal.Record(0, "a"), journal.Record(1, "s"), journal.Record(0, "b")
	for _, k := range []struct {
		log  string
		want []journal.Entry
	}{
		{a + b, []journal.Entry{{Text: "a"}, {Text: "b"}}},
		{a + s + b, []journal.Entry{{Kind: 1, Text: "s"}, {Text: "b"}}},
		{s + a + s, []journal.Entry{{Kind: 1, Text: "s"}}},
		// A snapshot behind what is torn, or that is torn itself, does not count.
		{a + b + "x" + s, []journal.Entry{{Text: "a"}, {Text: "b"}}},
		{a + b + s[:len(s)-1], []journal.Entry{{Text: "a"}, {Text: "b"}}},
		{"x" + s, nil},
	} {
		if got := journal.Since(k.log); !slices.Equal(got, k.want) {
			t.Errorf("P8.2: Since(%q): %v", k.log, got)
		}
	}
}

// A log that ends anywhere says what the whole records of it say.
func TestReadCutAnywhere(t *testing.T) {
	all := some()
	whole, n := "", 0
	for k, e := range all {
		for i := range len(journal.Record(e.Kind, e.Text)) {
			if i < 20 || i > len(journal.Record(e.Kind, e.Text))-20 || i%97 == 0 {
				says(t, journal.Tear(whole, e.Kind, e.Text, i), all[:k], n)
			}
		}
		whole += journal.Record(e.Kind, e.Text)
		n = len(whole)
	}
}

// Behind what is torn, what is whole is not read; repaired, it goes on.
func TestReadBehindTorn(t *testing.T) {
	all := []journal.Entry{{Text: "a"}, {Kind: 1, Text: "s"}}
	log, torn := written(all), journal.Record(0, "torn")
	for k := 1; k < len(torn); k++ {
		left := journal.Tear(log, 0, "torn", k)
		behind, _ := journal.Append(left, 0, "b")
		says(t, behind, all, len(log))
		again, _ := journal.Append(journal.Repair(behind), 0, "b")
		says(t, again, append(slices.Clone(all), journal.Entry{Text: "b"}), len(again))
	}
}

// No bit of a record may be turned: the log is good up to it.
func TestReadEachBit(t *testing.T) {
	all := []journal.Entry{{Text: "ahead"}, {Kind: 1, Text: "turned"}, {Text: "behind"}}
	log := written(all)
	for i := range 8 * len(log) {
		other := []byte(log)
		other[i/8] ^= 1 << (i % 8)
		k := 0
		for len(written(all[:k+1])) <= i/8 {
			k++
		}
		says(t, string(other), all[:k], len(written(all[:k])))
	}
}

// Bytes that no Record tells are none, though their digest is right.
func TestReadOfNoRecord(t *testing.T) {
	all := []journal.Entry{{Text: "a"}}
	log := written(all)
	for _, body := range []string{
		"K\x00\x00", "\x00\x00\x00", "j\x01\x01\x01a", // another first byte
		"J\x02\x00", "J\xff\x00", "J\x4a\x01\x01a", // another kind
		"J\x00\x01\x00", "J\x00\x02\x00\x01a", "J\x01\x06\x00\x00\x00\x00\x00\x01a", // a number with a 0 ahead
		"J\x00\x02\x10\x01" + text(4097), "J\x01\x03\x01\x00\x00" + text(65536), // a text that is too long
		"J\x00\x07" + text(7), "J\x00\x06\x01\x00\x00\x00\x00\x01a", "J\x00\xff" + text(255), // no number
		"J\x00\x01\x02a", "J\x00\x01\x01ab", "J\x00\x01", "J\x00", "J", "", "J\x00\x00\x00", // bytes that lack, or are too many
	} {
		says(t, tagged(body), nil, 0)
		says(t, log+tagged(body), all, len(log))
		says(t, log+tagged(body)+log, all, len(log))
	}
	for _, wrong := range []string{"J\x00\x00" + "\x00\x00\x00\x00", "J\x00\x00", tagged("J\x00\x00")[:6], "x" + log, strings.Repeat("J", 100), text(10000)} {
		says(t, wrong, nil, 0)
		says(t, log+wrong, all, len(log))
	}
}

// Four bytes of the digest are looked at, and no more: what is behind them is the next record's.
func TestReadTagLength(t *testing.T) {
	record := journal.Record(0, "a")
	for b := range 256 {
		says(t, record+string([]byte{byte(b)}), []journal.Entry{{Text: "a"}}, len(record))
	}
	for i := len(record) - 4; i < len(record); i++ {
		other := []byte(record)
		other[i]++
		says(t, string(other), nil, 0)
	}
}

// dice are numbers that look thrown, the same ones each time.
type dice uint64

func (d *dice) below(n int) int {
	*d = *d*6364136223846793005 + 1442695040888963407
	return int(uint64(*d) >> 33 % uint64(n))
}

// Walks of appending, tearing and compacting: the log says what was done since, but for what was torn.
func TestWalks(t *testing.T) {
	d := dice(8)
	for range 40 {
		log := ""
		var all []journal.Entry
		for range 60 {
			e := journal.Entry{Kind: d.below(5) / 4, Text: text(d.below(40))}
			switch d.below(8) {
			case 0:
				log, all = journal.Compact(log, e.Text), []journal.Entry{{Kind: 1, Text: e.Text}}
			case 1:
				torn := journal.Tear(log, e.Kind, e.Text, d.below(len(journal.Record(e.Kind, e.Text))))
				says(t, torn, all, len(log))
				log = journal.Repair(torn)
			default:
				log, _ = journal.Append(log, e.Kind, e.Text)
				all = append(all, e)
			}
			says(t, log, all, len(log))
		}
	}
}

// Many records are read in one go.
func TestReadLong(t *testing.T) {
	one := journal.Record(0, "one of many")
	got, n := journal.Read(strings.Repeat(one, 50000) + one[:5])
	if len(got) != 50000 || n != 50000*len(one) {
		t.Errorf("P8.2: %d, %d", len(got), n)
	}
}

func TestAnswersAreNewMemory(t *testing.T) {
	log := written(some())
	first, _ := journal.Read(log)
	first[0] = journal.Entry{Kind: 9, Text: "changed"}
	tail := journal.Since(log)
	tail[0] = journal.Entry{Kind: 9, Text: "changed"}
	says(t, log, some(), len(log))
}
