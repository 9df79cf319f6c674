package acct_test

import (
	"maps"
	"math/big"
	"slices"
	"testing"

	"roundhouse/acct"
	"roundhouse/api"
)

// model adds up without a most, by numbers of any length; what is told is capped alone.
type model map[int]*big.Int

func (m model) note(u acct.Use) api.Errno {
	if u.Job < 0 || u.Job > 1<<40 || u.Cores < 0 || u.From < 0 || u.To < u.From {
		return api.ErrArg
	}
	n := new(big.Int).Mul(big.NewInt(int64(u.Cores)), big.NewInt(int64(u.To-u.From)))
	if m[u.Job] != nil {
		n.Add(n, m[u.Job])
	}
	m[u.Job] = n
	return api.OK
}

// holds checks all that the book tells against the model.
func (m model) holds(t *testing.T, b *acct.Book) {
	t.Helper()
	all := new(big.Int)
	for job, n := range m {
		all.Add(all, n)
		if b.Job(job) != capped(n) {
			t.Fatalf("P11.3: Job(%d): %d, not %d", job, b.Job(job), capped(n))
		}
	}
	if b.All() != capped(all) {
		t.Fatalf("P11.3: All: %d, not %d", b.All(), capped(all))
	}
	if want := slices.Sorted(maps.Keys(m)); !slices.Equal(b.Jobs(), want) {
		t.Fatalf("P11.3: Jobs: %v, not %v", b.Jobs(), want)
	}
}

// dice are numbers that look thrown, the same ones each time.
type dice uint64

func (d *dice) below(n int) int {
	*d = *d*6364136223846793005 + 1442695040888963407
	return int(uint64(*d) >> 33 % uint64(n))
}

// use is one that may be wrong, and that is as great as its bits allow.
func (d *dice) use(bits int) acct.Use {
	from := d.below(20) - 1
	u := acct.Use{Job: d.below(12) - 1, Cores: d.below(40) - 1, From: from, To: from + d.below(20) - 1}
	if d.below(3) == 0 {
		u.Cores, u.To = 1<<d.below(bits), u.To+1<<d.below(bits)
	}
	return u
}

// Whatever is noted, the book is as the model says, and nothing falls, or turns round.
func TestWalks(t *testing.T) {
	d := dice(7)
	seen := map[api.Errno]int{}
	for bits := range 62 {
		b, m := acct.New(), model{}
		for range 60 {
			u := d.use(bits + 1)
			all, job := b.All(), b.Job(u.Job)
			want := m.note(u)
			seen[want]++
			if e := b.Note(u); e != want {
				t.Fatalf("P11.3: Note(%v): %d, not %d", u, e, want)
			}
			if b.All() < all || b.Job(u.Job) < job || job < 0 {
				t.Fatalf("P11.4: Note(%v): %d and %d, then %d and %d", u, all, job, b.All(), b.Job(u.Job))
			}
			m.holds(t, b)
		}
	}
	if seen[api.OK] < 500 || seen[api.ErrArg] < 500 {
		t.Errorf("seen: %v", seen)
	}
}
