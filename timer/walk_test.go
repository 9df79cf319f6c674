package timer_test

import (
	"slices"
	"testing"

	"roundhouse/api"
	"roundhouse/timer"
)

// model goes by the document's words, with a map from id to deadline, sorted each time that it is told.
type model map[int]int

func (m model) set(id, at int) api.Errno {
	if id < 0 || id > 1<<40 || at < 0 || at > 1<<40 {
		return api.ErrArg
	}
	if _, ok := m[id]; !ok && len(m) == 256 {
		return api.ErrFull
	}
	m[id] = at
	return api.OK
}

// inOrder is the ids by deadline, then by id.
func (m model) inOrder() []int {
	var ids []int
	for id := range m {
		ids = append(ids, id)
	}
	slices.SortFunc(ids, func(a, b int) int {
		if m[a] != m[b] {
			return m[a] - m[b]
		}
		return a - b
	})
	return ids
}

func (m model) due(now int) []int {
	var ids []int
	for _, id := range m.inOrder() {
		if m[id] <= now {
			ids = append(ids, id)
		}
	}
	for _, id := range ids {
		delete(m, id)
	}
	return ids
}

// holds checks all that the queue tells against the model.
func (m model) holds(t *testing.T, q *timer.Queue, ids int) {
	t.Helper()
	if q.Len() != len(m) {
		t.Fatalf("P9.1: Len: %d, not %d", q.Len(), len(m))
	}
	for id := -1; id <= ids; id++ {
		want, has := m[id]
		if at, ok := q.At(id); at != want || ok != has {
			t.Fatalf("P9.1: At(%d): %d, %v, not %d, %v", id, at, ok, want, has)
		}
	}
	id, at, ok := q.Next()
	order := m.inOrder()
	if len(order) == 0 {
		order = []int{0}
	}
	if id != order[0] || at != m[order[0]] || ok != (len(m) > 0) {
		t.Fatalf("P9.2: Next: %d, %d, %v", id, at, ok)
	}
}

// dice are numbers that look thrown, the same ones each time.
type dice uint64

func (d *dice) below(n int) int {
	*d = *d*6364136223846793005 + 1442695040888963407
	return int(uint64(*d) >> 33 % uint64(n))
}

// walk does ops that are thrown, of ids below a number, and counts what Set answered.
func walk(t *testing.T, d *dice, ids, ops, spread int, seen map[api.Errno]int) {
	t.Helper()
	q, m := timer.New(), model{}
	now := 0
	for range ops {
		switch id := d.below(ids); d.below(8) {
		case 0:
			now += d.below(3)
			want := m.due(now)
			if got := q.Due(now); !slices.Equal(got, want) {
				t.Fatalf("P9.2: Due(%d): %v, not %v", now, got, want)
			}
		case 1:
			_, want := m[id]
			delete(m, id)
			if q.Cancel(id) != want {
				t.Fatalf("P9.1: Cancel(%d): not %v", id, want)
			}
		default:
			id, at := id-d.below(2), now+d.below(spread)-2
			want := m.set(id, at)
			seen[want]++
			if e := q.Set(id, at); e != want {
				t.Fatalf("P9.1: Set(%d, %d): %d, not %d", id, at, e, want)
			}
		}
		m.holds(t, q, ids)
	}
}

func TestWalks(t *testing.T) {
	d := dice(3)
	seen := map[api.Errno]int{}
	for i := range 40 {
		walk(t, &d, 4+i, 250, 3+i, seen)
	}
	walk(t, &d, 400, 3000, 2000, seen)
	for _, e := range []api.Errno{api.OK, api.ErrArg, api.ErrFull} {
		if seen[e] < 100 {
			t.Errorf("error %d was seen %d times only", e, seen[e])
		}
	}
}

// As time goes on, each deadline that is not taken back is told once, and none ahead of one that is earlier.
func TestToldOnce(t *testing.T) {
	d := dice(5)
	q := timer.New()
	set := map[int]int{}
	told, last := 0, [2]int{-1, -1}
	for id := range 256 {
		set[id] = d.below(90)
		q.Set(id, set[id])
	}
	for id := 0; id < 256; id += 7 {
		q.Cancel(id)
		delete(set, id)
	}
	for now := range 100 {
		for _, id := range q.Due(now) {
			at, ok := set[id]
			here := [2]int{at, id}
			if !ok || at != now || slices.Compare(here[:], last[:]) <= 0 {
				t.Errorf("P9.3: %d was told at %d, behind %v", id, now, last)
			}
			delete(set, id)
			last = here
			told++
		}
	}
	if told != 256-37 || len(set) != 0 || q.Len() != 0 {
		t.Errorf("P9.3: %d were told, %d were not", told, len(set))
	}
}
