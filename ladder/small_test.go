package ladder_test

import (
	"slices"
	"testing"

	"roundhouse/api"
	"roundhouse/ladder"
)

// wantRungs goes by the document's words, one by one.
func wantRungs(p ladder.Plan, r ladder.Run) ([5]int, bool) {
	planOK := p.Limit >= 1 && p.Warn >= 0 && p.Warn <= p.Limit && p.Grace >= 0 && p.Kill >= 0
	runOK := r.From >= 0 && (r.Cancel == -1 || r.Cancel >= r.From)
	if !planOK || !runOK {
		return noRungs, false
	}
	end := r.From + p.Limit
	if r.Cancel != -1 && r.Cancel < end {
		end = r.Cancel
	}
	warned := r.From + p.Limit - p.Warn
	if warned > end {
		warned = end
	}
	return [5]int{r.From, warned, end, end + p.Grace, end + p.Grace + p.Kill}, true
}

// holds checks all that is told of p and r, at the times around its rungs.
func holds(t *testing.T, p ladder.Plan, r ladder.Run) {
	t.Helper()
	want, ok := wantRungs(p, r)
	if rungs := ladder.Rungs(p, r); rungs != want || ladder.End(p, r) != want[2] {
		t.Fatalf("P10.2: Rungs(%v, %v): %v, not %v", p, r, rungs, want)
	}
	before := -1
	for now := -2; now <= 12; now++ {
		stage := -1
		var begun []int
		for s, at := range want {
			if ok && at <= now {
				stage = s
			}
			if ok && at == now {
				begun = append(begun, s)
			}
		}
		if got := ladder.Stage(p, r, now); got != stage || got < before {
			t.Fatalf("P10.4: Stage(%v, %v, %d): %d, not %d, behind %d", p, r, now, got, stage, before)
		}
		if got := ladder.Between(p, r, now-1, now); !slices.Equal(got, begun) {
			t.Fatalf("P10.3: Between(%v, %v, %d, %d): %v, not %v", p, r, now-1, now, got, begun)
		}
		before = stage
	}
	betweenHolds(t, p, r, want, ok)
}

// betweenHolds checks Between over longer times.
func betweenHolds(t *testing.T, p ladder.Plan, r ladder.Run, rungs [5]int, ok bool) {
	t.Helper()
	for from := -2; from <= 10; from += 3 {
		for to := -2; to <= 12; to += 2 {
			var want []int
			for s, at := range rungs {
				if ok && from < at && at <= to {
					want = append(want, s)
				}
			}
			if got := ladder.Between(p, r, from, to); !slices.Equal(got, want) {
				t.Fatalf("P10.3: Between(%v, %v, %d, %d): %v, not %v", p, r, from, to, got, want)
			}
		}
	}
}

// All small plans and runs, those that may not be with them.
func TestSmallOnes(t *testing.T) {
	for limit := 0; limit <= 3; limit++ {
		for warn := -1; warn <= 4; warn++ {
			for rest := range 16 {
				p := ladder.Plan{Limit: limit, Warn: warn, Grace: rest%4 - 1, Kill: rest/4 - 1}
				for from := -1; from <= 2; from++ {
					for cancel := -2; cancel <= 6; cancel++ {
						holds(t, p, ladder.Run{From: from, Cancel: cancel})
					}
				}
			}
		}
	}
}

// Who is asked to end is killed a grace later, however the end came about.
func TestKilledAGraceLater(t *testing.T) {
	for _, grace := range []int{1, 2, 60, span} {
		p := ladder.Plan{Limit: 100, Warn: 10, Grace: grace, Kill: 7}
		for _, r := range []ladder.Run{{Cancel: -1}, {Cancel: 40}, {From: api.MaxNum, Cancel: -1}, {From: 9, Cancel: 9}} {
			end := ladder.End(p, r)
			for at, want := range map[int]int{end: 2, end + grace - 1: 2, end + grace: 3, end + grace + 6: 3, end + grace + 7: 4} {
				if stage := ladder.Stage(p, r, at); stage != want {
					t.Errorf("P10.4: Stage(%v, %v, %d): %d, not %d", p, r, at, stage, want)
				}
			}
		}
	}
}
