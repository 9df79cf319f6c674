package replay_test

import (
	"slices"
	"testing"

	"roundhouse/api"
	"roundhouse/replay"
)

// model goes by the document's words, with lists in the place of maps.
type model struct {
	most int
	kept []api.Cred
	back [][2]int // a job, and an epoch, each time that one was taken back
}

func samePlace(a, b api.Cred) bool {
	return a.Job == b.Job && a.Epoch == b.Epoch && a.Step == b.Step
}

func (m *model) revoked(x api.Cred) bool {
	return slices.ContainsFunc(m.back, func(b [2]int) bool { return b[0] == x.Job && b[1] >= x.Epoch })
}

func (m *model) used(x api.Cred, now int) bool {
	return slices.ContainsFunc(m.kept, func(k api.Cred) bool { return samePlace(k, x) && k.Until > now })
}

func (m *model) use(x api.Cred, now int) api.Errno {
	if x.Until <= now {
		return api.ErrTime
	}
	if m.revoked(x) {
		return api.ErrRevoked
	}
	m.kept = slices.DeleteFunc(m.kept, func(k api.Cred) bool { return k.Until <= now })
	if m.used(x, now) {
		return api.ErrReplay
	}
	if len(m.kept) == m.most {
		return api.ErrFull
	}
	m.kept = append(m.kept, x)
	return api.OK
}

// dice are numbers that look thrown, the same ones each time.
type dice uint64

func (d *dice) below(n int) int {
	*d = *d*6364136223846793005 + 1442695040888963407
	return int(uint64(*d) >> 33 % uint64(n))
}

// holds checks all that the cache tells against the model.
func (m *model) holds(t *testing.T, c *replay.Cache, now int) {
	t.Helper()
	if c.Len() != len(m.kept) {
		t.Fatalf("P7.2: Len: %d, not %d", c.Len(), len(m.kept))
	}
	for i := range 4 * 3 * 3 {
		x := one(i/9, i/3%3, i%3, 0)
		if c.Revoked(x) != m.revoked(x) {
			t.Fatalf("P7.3: Revoked(%v): %v", x, c.Revoked(x))
		}
		for at := now - 3; at <= now+3; at++ {
			if c.Used(x, at) != m.used(x, at) {
				t.Fatalf("P7.2: Used(%v, %d): %v", x, at, c.Used(x, at))
			}
		}
	}
}

func TestWalks(t *testing.T) {
	d := dice(7)
	seen := map[api.Errno]int{}
	for walk := range 60 {
		most := 1 + walk%9
		c, m := replay.New(most), &model{most: most}
		now := 0
		for range 150 {
			now += d.below(3) - d.below(2)
			if d.below(12) == 0 {
				job, epoch := d.below(4), d.below(3)-d.below(2)
				want := api.ErrArg
				if epoch >= 0 {
					want = api.OK
					m.back = append(m.back, [2]int{job, epoch})
				}
				revokes(t, c, job, epoch, want)
			}
			x := one(d.below(4), d.below(3), d.below(3), max(0, now+d.below(20)-3))
			want := m.use(x, now)
			seen[want]++
			if e := c.Use(x, now); e != want {
				t.Fatalf("P7.1: Use(%v, %d): %d, not %d", x, now, e, want)
			}
			m.holds(t, c, now)
		}
	}
	for _, e := range []api.Errno{api.OK, api.ErrTime, api.ErrRevoked, api.ErrReplay, api.ErrFull} {
		if seen[e] < 100 {
			t.Errorf("error %d was seen %d times only", e, seen[e])
		}
	}
}

// As time goes on, no place is used a second time while its credential lasts.
func TestNoPlaceTwice(t *testing.T) {
	d := dice(9)
	c := replay.New(6)
	until := map[[3]int]int{}
	now, again := 0, 0
	for range 5000 {
		now += d.below(2)
		x := one(d.below(3), d.below(2), d.below(2), now+1+d.below(15))
		p := [3]int{x.Job, x.Epoch, x.Step}
		lasts := until[p] > now
		e := c.Use(x, now)
		switch {
		case lasts && e != api.ErrReplay || !lasts && e == api.ErrReplay:
			t.Fatalf("P7.4: Use(%v, %d): %d, and the one before lasts until %d", x, now, e, until[p])
		case e == api.OK:
			until[p] = x.Until
		case lasts:
			again++
		}
	}
	if again < 100 {
		t.Errorf("only %d were tried again", again)
	}
}
