package timer_test

import (
	"math"
	"slices"
	"testing"

	"roundhouse/api"
	"roundhouse/timer"
)

// sets checks what Set answers, and how many deadlines there are then.
func sets(t *testing.T, q *timer.Queue, id, at int, want api.Errno, count int) {
	t.Helper()
	if e := q.Set(id, at); e != want || q.Len() != count {
		t.Errorf("P9.1: Set(%d, %d): %d, and there are %d, not %d and %d", id, at, e, q.Len(), want, count)
	}
}

// isAt checks that id has a deadline, and which.
func isAt(t *testing.T, q *timer.Queue, id, want int) {
	t.Helper()
	if at, ok := q.At(id); at != want || !ok {
		t.Errorf("P9.1: At(%d): %d, %v, not %d", id, at, ok, want)
	}
}

// hasNone checks that id has no deadline.
func hasNone(t *testing.T, q *timer.Queue, id int) {
	t.Helper()
	if at, ok := q.At(id); at != 0 || ok {
		t.Errorf("P9.1: At(%d): %d, %v", id, at, ok)
	}
}

// isNext checks what Next answers.
func isNext(t *testing.T, q *timer.Queue, wantID, wantAt int, want bool) {
	t.Helper()
	if id, at, ok := q.Next(); id != wantID || at != wantAt || ok != want {
		t.Errorf("P9.2: Next: %d, %d, %v, not %d, %d, %v", id, at, ok, wantID, wantAt, want)
	}
}

// isDue checks what Due answers, and how many deadlines are left.
func isDue(t *testing.T, q *timer.Queue, now int, want []int, left int) {
	t.Helper()
	if ids := q.Due(now); !slices.Equal(ids, want) || q.Len() != left {
		t.Errorf("P9.2: Due(%d): %v, and there are %d, not %v and %d", now, ids, q.Len(), want, left)
	}
}

func TestNew(t *testing.T) {
	q := timer.New()
	if q == nil {
		t.Fatal("P9.1: New is nil")
	}
	isNext(t, q, 0, 0, false)
	isDue(t, q, math.MaxInt, nil, 0)
	hasNone(t, q, 0)
	sets(t, q, 0, 0, api.OK, 1)
	sets(t, timer.New(), 1, 1, api.OK, 1)
	isNext(t, q, 0, 0, true)
}

func TestNil(t *testing.T) {
	var q *timer.Queue
	sets(t, q, 1, 2, api.ErrArg, 0)
	hasNone(t, q, 1)
	isNext(t, q, 0, 0, false)
	isDue(t, q, 9, nil, 0)
	if q.Cancel(1) {
		t.Error("P9.2: nil had a deadline")
	}
}

// A queue that New did not make is one without deadlines.
func TestZeroQueue(t *testing.T) {
	q := &timer.Queue{}
	isNext(t, q, 0, 0, false)
	isDue(t, q, 9, nil, 0)
	hasNone(t, q, 1)
	if q.Cancel(1) {
		t.Error("R1: a zero queue had a deadline")
	}
	sets(t, q, 1, 2, api.OK, 1)
	isDue(t, q, 9, []int{1}, 0)
}

func TestSetArgs(t *testing.T) {
	q := timer.New()
	wrong := []int{math.MinInt, -1 << 32, -2, -1, api.MaxNum + 1, 1 << 41, math.MaxInt}
	for _, n := range wrong {
		sets(t, q, n, 0, api.ErrArg, 0)
		sets(t, q, 0, n, api.ErrArg, 0)
		sets(t, q, n, n, api.ErrArg, 0)
		hasNone(t, q, n)
		if q.Cancel(n) {
			t.Errorf("P9.1: Cancel(%d)", n)
		}
	}
	sets(t, q, 0, api.MaxNum, api.OK, 1)
	sets(t, q, api.MaxNum, 0, api.OK, 2)
	// A wrong deadline leaves the one that there is.
	for _, n := range wrong {
		sets(t, q, 0, n, api.ErrArg, 2)
	}
	isAt(t, q, 0, api.MaxNum)
	isAt(t, q, api.MaxNum, 0)
	isNext(t, q, api.MaxNum, 0, true)
	isDue(t, q, api.MaxNum-1, []int{api.MaxNum}, 1)
	isDue(t, q, api.MaxNum, []int{0}, 0)
}

// An id has one deadline, which may be set earlier, later, and as it was.
func TestSetAgain(t *testing.T) {
	q := timer.New()
	sets(t, q, 5, 9, api.OK, 1)
	sets(t, q, 7, 3, api.OK, 2)
	sets(t, q, 5, 2, api.OK, 2)
	isAt(t, q, 5, 2)
	isNext(t, q, 5, 2, true)
	sets(t, q, 5, 12, api.OK, 2)
	isAt(t, q, 5, 12)
	isNext(t, q, 7, 3, true)
	sets(t, q, 5, 12, api.OK, 2)
	isDue(t, q, 11, []int{7}, 1)
	isDue(t, q, 12, []int{5}, 0)
}

// Where there are 256, those that have a deadline may be set yet, and no other.
func TestFull(t *testing.T) {
	q := timer.New()
	for i := range 256 {
		sets(t, q, 1000-i, 7, api.OK, i+1)
	}
	sets(t, q, 1, 0, api.ErrFull, 256)
	hasNone(t, q, 1)
	// What is wrong is told ahead of what is full.
	sets(t, q, -1, 0, api.ErrArg, 256)
	sets(t, q, 1, -1, api.ErrArg, 256)
	sets(t, q, 1, api.MaxNum+1, api.ErrArg, 256)
	sets(t, q, 1000, 3, api.OK, 256)
	isNext(t, q, 1000, 3, true)
	if !q.Cancel(900) {
		t.Error("P9.1: 900 had a deadline")
	}
	sets(t, q, 1, 0, api.OK, 256)
	sets(t, q, 900, 0, api.ErrFull, 256)
	isDue(t, q, 3, []int{1, 1000}, 254)
	sets(t, q, 900, 8, api.OK, 255)
}

func TestCancel(t *testing.T) {
	q := timer.New()
	for id, at := range []int{4, 1, 3, 1, 5, 9, 2, 6} {
		sets(t, q, id, at, api.OK, id+1)
	}
	for left, id := range []int{1, 5, 0} {
		if !q.Cancel(id) || q.Cancel(id) {
			t.Errorf("P9.1: Cancel(%d)", id)
		}
		hasNone(t, q, id)
		if q.Len() != 7-left {
			t.Errorf("P9.1: Len: %d", q.Len())
		}
	}
	if q.Cancel(8) {
		t.Error("P9.1: 8 had no deadline")
	}
	isNext(t, q, 3, 1, true)
	isDue(t, q, 99, []int{3, 6, 2, 4, 7}, 0)
	if q.Cancel(3) {
		t.Error("P9.2: what is due has no deadline any more")
	}
	hasNone(t, q, 3)
}

// By deadline first, then by id, in whatever order they were set.
func TestDueOrder(t *testing.T) {
	q := timer.New()
	sets(t, q, 5, 9, api.OK, 1)
	sets(t, q, 7, 3, api.OK, 2)
	isDue(t, q, 9, []int{7, 5}, 0)
	for i, id := range []int{30, 2, 100, 11, 1} {
		sets(t, q, id, 4, api.OK, i+1)
	}
	sets(t, q, 0, 5, api.OK, 6)
	sets(t, q, api.MaxNum, 3, api.OK, 7)
	isDue(t, q, math.MinInt, nil, 7)
	isDue(t, q, -1, nil, 7)
	isDue(t, q, 2, nil, 7)
	isDue(t, q, 3, []int{api.MaxNum}, 6)
	isNext(t, q, 1, 4, true)
	isDue(t, q, 4, []int{1, 2, 11, 30, 100}, 1)
	isDue(t, q, 4, nil, 1)
	isDue(t, q, math.MaxInt, []int{0}, 0)
	isNext(t, q, 0, 0, false)
}

// Next is a mere question.
func TestNextChangesNothing(t *testing.T) {
	q := timer.New()
	sets(t, q, 3, 8, api.OK, 1)
	sets(t, q, 2, 8, api.OK, 2)
	for range 3 {
		isNext(t, q, 2, 8, true)
		isAt(t, q, 2, 8)
	}
	isDue(t, q, 8, []int{2, 3}, 0)
}

// What was answered is the caller's: what the queue does later is not seen in it, nor the other way round.
func TestDueIsNew(t *testing.T) {
	q := timer.New()
	for id := range 6 {
		sets(t, q, id, id, api.OK, id+1)
	}
	ids := q.Due(2)
	isDue(t, q, 3, []int{3}, 2)
	sets(t, q, 9, 0, api.OK, 3)
	if !slices.Equal(ids, []int{0, 1, 2}) {
		t.Errorf("R5: %v", ids)
	}
	copy(ids[:cap(ids)], []int{77, 77, 77, 77})
	isDue(t, q, 9, []int{9, 4, 5}, 0)
}
