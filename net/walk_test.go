package net_test

import (
	"slices"
	"strconv"
	"testing"

	"roundhouse/net"
)

type dice uint64

func (d *dice) below(n int) int {
	*d = *d*6364136223846793005 + 1442695040888963407
	return int(uint64(*d) >> 33 % uint64(n))
}

// TestWalk has nets go by chance, beside a list that goes by the document's words.
func TestWalk(t *testing.T) {
	for seed := range 100 {
		d := dice(seed)
		room := 1 + d.below(12)
		n, want := net.New(room), []string{}
		sent, came, lost, doubled := map[string]int{}, 0, 0, 0
		for now := range 300 {
			i := d.below(60) - 30
			at, any := 0, len(want) > 0
			if any {
				at = (i + 60*len(want)) % len(want)
			}
			switch d.below(5) {
			case 0:
				s, is := n.Take(i)
				if is != any || is && s != want[at] {
					t.Fatalf("P19.2: Take(%d) of %q = %q, %v", i, want, s, is)
				}
				if is && sent[s] == 0 {
					t.Fatalf("P19.3: %q comes, which was not sent", s)
				}
				if any {
					want = slices.Delete(want, at, at+1)
					came++
				}
			case 1:
				if n.Drop(i) != any {
					t.Fatalf("P19.2: Drop(%d) of %q = %v", i, want, !any)
				}
				if any {
					want = slices.Delete(want, at, at+1)
					lost++
				}
			case 2:
				may := any && len(want) < room
				if n.Twice(i) != may {
					t.Fatalf("P19.2: Twice(%d) of %q = %v", i, want, !may)
				}
				if may {
					want = append(want, want[at])
					doubled++
				}
			default:
				var l []string
				for k := range d.below(4) {
					l = append(l, strconv.Itoa(now)+"."+strconv.Itoa(k))
					sent[l[k]]++
				}
				laid := min(len(l), room-len(want))
				if got := n.Send(l); got != laid {
					t.Fatalf("P19.1: Send of %q behind %q = %d", l, want, got)
				}
				want = append(want, l[:laid]...)
				lost += len(l) - laid
			}
			has(t, n, lost, want...)
			if len(sent)+doubled != came+n.Lost()+len(n.List()) {
				t.Fatalf("P19.3: %d were sent, %d doubled, but %d came, %d were lost, %d are there", len(sent), doubled, came, n.Lost(), len(n.List()))
			}
		}
	}
}
