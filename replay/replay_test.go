package replay_test

import (
	"math"
	"slices"
	"testing"

	"roundhouse/api"
	"roundhouse/replay"
)

// one is a credential that may be, of a place, until a time; its Nodes are new memory each time.
func one(job, epoch, step, until int) api.Cred {
	return api.Cred{Job: job, Epoch: epoch, Step: step, Until: until, Nodes: []int{0, 3}, Cores: 1}
}

// uses checks what Use answers, and how many are kept then.
func uses(t *testing.T, c *replay.Cache, x api.Cred, now int, want api.Errno, kept int) {
	t.Helper()
	if e := c.Use(x, now); e != want || c.Len() != kept {
		t.Errorf("P7.1: Use(%v, %d): %d, and %d are kept, not %d and %d", x, now, e, c.Len(), want, kept)
	}
}

// revokes checks what Revoke answers.
func revokes(t *testing.T, c *replay.Cache, job, epoch int, want api.Errno) {
	t.Helper()
	if e := c.Revoke(job, epoch); e != want {
		t.Errorf("P7.3: Revoke(%d, %d): %d, not %d", job, epoch, e, want)
	}
}

func TestNew(t *testing.T) {
	for most := -3; most <= 70; most++ {
		c := replay.New(most)
		if (c != nil) != (most >= 1 && most <= 64) {
			t.Errorf("P7.1: New(%d): %v", most, c)
		}
		if c.Len() != 0 || c.Used(one(0, 0, 0, 9), 0) || c.Revoked(one(0, 0, 0, 9)) {
			t.Errorf("P7.1: New(%d) keeps something", most)
		}
	}
	for _, most := range []int{math.MinInt, math.MaxInt, 1 << 32, 1<<32 + 1} {
		if replay.New(most) != nil {
			t.Errorf("P7.1: New(%d)", most)
		}
	}
}

func TestNil(t *testing.T) {
	var c *replay.Cache
	uses(t, c, one(1, 0, 0, 9), 0, api.ErrArg, 0)
	revokes(t, c, 1, 0, api.ErrArg)
	if c.Used(one(1, 0, 0, 9), 0) || c.Revoked(one(1, 0, 0, 9)) || c.Len() != 0 {
		t.Error("P7.3: nil keeps something")
	}
}

// A cache that New did not make has no room, and panics nowhere.
func TestZeroCache(t *testing.T) {
	c := &replay.Cache{}
	uses(t, c, one(1, 0, 0, 9), 0, api.ErrFull, 0)
	uses(t, c, api.Cred{}, 0, api.ErrArg, 0)
	if c.Used(one(1, 0, 0, 9), 0) || c.Revoked(one(1, 0, 0, 9)) {
		t.Error("R1: a zero cache keeps something")
	}
	revokes(t, c, 1, 0, api.OK)
	uses(t, c, one(1, 0, 0, 9), 0, api.ErrRevoked, 0)
}

func TestUseTwice(t *testing.T) {
	c := replay.New(64)
	uses(t, c, one(1, 0, 0, 10), 0, api.OK, 1)
	uses(t, c, one(1, 0, 0, 10), 0, api.ErrReplay, 1)
	uses(t, c, one(1, 0, 0, 10), 9, api.ErrReplay, 1)
	uses(t, c, one(1, 0, 0, 10), 10, api.ErrTime, 1)
	uses(t, c, one(1, 0, 0, 11), 10, api.OK, 1)
}

// A place is Job, Epoch and Step, each of them, and nothing else of a credential.
func TestPlace(t *testing.T) {
	c := replay.New(64)
	uses(t, c, one(1, 2, 3, 10), 0, api.OK, 1)
	other := api.Cred{Job: 1, Epoch: 2, Step: 3, From: 5, Until: 99, Nodes: []int{7}, Cores: 200}
	uses(t, c, other, 0, api.ErrReplay, 1)
	places := [][3]int{{3, 2, 1}, {1, 3, 2}, {2, 1, 3}, {1, 2, 4}, {1, 3, 3}, {0, 2, 3}, {0, 0, 0}, {api.MaxNum, 8, api.MaxNum}}
	for i, p := range places {
		if c.Used(one(p[0], p[1], p[2], 10), 0) {
			t.Errorf("P7.2: %v is used", p)
		}
		uses(t, c, one(p[0], p[1], p[2], 10), 0, api.OK, i+2)
		uses(t, c, one(p[0], p[1], p[2], 10), 0, api.ErrReplay, i+2)
	}
}

func TestUseOfWhatMayNotBe(t *testing.T) {
	for i, change := range []func(x *api.Cred){
		func(x *api.Cred) { x.Job = -1 }, func(x *api.Cred) { x.Job = api.MaxNum + 1 },
		func(x *api.Cred) { x.Epoch = -1 }, func(x *api.Cred) { x.Epoch = 9 },
		func(x *api.Cred) { x.Step = -1 }, func(x *api.Cred) { x.Step = math.MaxInt },
		func(x *api.Cred) { x.From = -1 }, func(x *api.Cred) { x.From = api.MaxNum + 1 },
		func(x *api.Cred) { x.Until = -1 }, func(x *api.Cred) { x.Until = api.MaxNum + 1 },
		func(x *api.Cred) { x.Cores = 0 }, func(x *api.Cred) { x.Cores = 257 },
		func(x *api.Cred) { x.Nodes = nil }, func(x *api.Cred) { x.Nodes = []int{3, 0} },
		func(x *api.Cred) { x.Nodes = []int{16} }, func(x *api.Cred) { x.Nodes = make([]int, 17) },
	} {
		c := replay.New(2)
		revokes(t, c, 1, 8, api.OK)
		x := one(1, 0, 0, 10)
		change(&x)
		// Taken back, and over at that time, too: what may not be is told first.
		if e := c.Use(x, math.MaxInt); e != api.ErrArg || c.Len() != 0 {
			t.Errorf("P7.1: case %d: %d, %d", i, e, c.Len())
		}
	}
}

// From does not count, and neither does how far off now is.
func TestUseTimes(t *testing.T) {
	for _, k := range []struct {
		until, now int
		want       api.Errno
	}{
		{0, -1, api.OK}, {0, 0, api.ErrTime}, {1, 0, api.OK}, {0, math.MinInt, api.OK}, {api.MaxNum, api.MaxNum - 1, api.OK},
		{api.MaxNum, api.MaxNum, api.ErrTime}, {api.MaxNum, math.MaxInt, api.ErrTime}, {api.MaxNum, math.MinInt, api.OK},
	} {
		c := replay.New(1)
		x := one(1, 0, 0, k.until)
		x.From = api.MaxNum
		kept := 0
		if k.want == api.OK {
			kept = 1
		}
		uses(t, c, x, k.now, k.want, kept)
		if c.Used(x, k.now) != (k.want == api.OK) || c.Used(x, k.until) {
			t.Errorf("P7.2: Used of %v at %d", x, k.now)
		}
	}
}

// Of several errors the first in the promise's order is told; what is over is dropped only behind ErrRevoked.
func TestUseOrder(t *testing.T) {
	c := replay.New(2)
	uses(t, c, one(1, 0, 0, 5), 0, api.OK, 1)
	uses(t, c, one(2, 0, 0, 50), 0, api.OK, 2)
	revokes(t, c, 2, 0, api.OK)
	uses(t, c, api.Cred{}, 20, api.ErrArg, 2)
	uses(t, c, one(2, 0, 0, 20), 20, api.ErrTime, 2)
	uses(t, c, one(2, 0, 0, 21), 20, api.ErrRevoked, 2)
	uses(t, c, one(2, 1, 0, 21), 4, api.ErrFull, 2)
	if !c.Used(one(1, 0, 0, 0), 4) {
		t.Error("P7.4: what is not over was dropped")
	}
	uses(t, c, one(1, 0, 0, 99), 4, api.ErrReplay, 2) // it is full, too
	uses(t, c, one(2, 1, 0, 21), 5, api.OK, 2)
	uses(t, c, one(1, 0, 0, 99), 5, api.ErrFull, 2)
}

// ErrReplay and ErrFull stand behind the dropping of what is over.
func TestDroppedWithError(t *testing.T) {
	c := replay.New(3)
	uses(t, c, one(1, 0, 0, 5), 0, api.OK, 1)
	uses(t, c, one(2, 0, 0, 6), 0, api.OK, 2)
	uses(t, c, one(3, 0, 0, 50), 0, api.OK, 3)
	uses(t, c, one(3, 0, 0, 50), 5, api.ErrReplay, 2)
	uses(t, c, one(3, 0, 0, 50), 6, api.ErrReplay, 1)
	if c.Used(one(1, 0, 0, 0), 0) || c.Used(one(2, 0, 0, 0), 0) || !c.Used(one(3, 0, 0, 0), 0) {
		t.Error("P7.1: what was over is kept, or what was not is dropped")
	}
	// Back in time: what was dropped may be used again, by the words of the document.
	uses(t, c, one(1, 0, 0, 5), 0, api.OK, 2)
}

func TestFull(t *testing.T) {
	for _, most := range []int{1, 2, 63, 64} {
		c := replay.New(most)
		for i := range most {
			uses(t, c, one(i, 0, i, 100+i), 0, api.OK, i+1)
		}
		uses(t, c, one(most, 0, most, 999), 99, api.ErrFull, most)
		uses(t, c, one(most-1, 0, most-1, 999), 99, api.ErrReplay, most)
		for i := range most {
			if !c.Used(one(i, 0, i, 0), 99+i) || c.Used(one(i, 0, i, 0), 100+i) {
				t.Errorf("P7.4: %d of %d", i, most)
			}
		}
		uses(t, c, one(most, 0, most, 999), 100, api.OK, most)
		uses(t, c, one(most+1, 0, 0, 1000), 999, api.OK, 1)
	}
}

// Used asks for the place alone, and goes by the Until that is kept.
func TestUsed(t *testing.T) {
	c := replay.New(2)
	uses(t, c, one(1, 0, 0, 10), 0, api.OK, 1)
	for now := -2; now <= 12; now++ {
		for _, x := range []api.Cred{one(1, 0, 0, 10), one(1, 0, 0, 0), one(1, 0, 0, 99), {Job: 1}} {
			if c.Used(x, now) != (now < 10) {
				t.Errorf("P7.2: Used(%v, %d)", x, now)
			}
		}
	}
	if c.Used(one(1, 0, 0, 10), math.MaxInt) || !c.Used(one(1, 0, 0, 10), math.MinInt) || c.Used(one(2, 0, 0, 10), 0) || c.Used(api.Cred{Job: -1}, 0) {
		t.Error("P7.2: Used")
	}
	if c.Len() != 1 {
		t.Errorf("P7.2: Used dropped what is over: %d", c.Len())
	}
}

func TestRevokeEdges(t *testing.T) {
	c := replay.New(1)
	for _, n := range []int{-1, math.MinInt, math.MaxInt, api.MaxNum + 1} {
		revokes(t, c, n, 0, api.ErrArg)
		revokes(t, c, n, 9, api.ErrArg)
		if c.Revoked(one(n, 0, 0, 9)) {
			t.Errorf("P7.3: job %d is taken back", n)
		}
	}
	for _, n := range []int{-1, math.MinInt, math.MaxInt, 9, 256, 257} {
		revokes(t, c, 0, n, api.ErrArg)
	}
	if c.Revoked(one(0, 0, 0, 9)) {
		t.Error("R3: with an error something changed")
	}
	for _, job := range []int{0, 1, api.MaxNum} {
		for epoch := range 9 {
			revokes(t, c, job, epoch, api.OK)
			for e := range 10 {
				if c.Revoked(one(job, e, 5, 0)) != (e <= epoch) {
					t.Errorf("P7.3: Revoke(%d, %d), then Revoked at %d", job, epoch, e)
				}
			}
		}
	}
}

func TestRevokeKeepsTheGreatest(t *testing.T) {
	c := replay.New(1)
	revokes(t, c, 1, 5, api.OK)
	revokes(t, c, 1, 2, api.OK)
	revokes(t, c, 1, 0, api.OK)
	if !c.Revoked(one(1, 5, 0, 9)) || c.Revoked(one(1, 6, 0, 9)) {
		t.Error("P7.3: a lesser epoch counts")
	}
	revokes(t, c, 1, 7, api.OK)
	if !c.Revoked(one(1, 7, 0, 9)) || c.Revoked(one(1, 8, 0, 9)) {
		t.Error("P7.3: a greater epoch does not count")
	}
}

func TestRevokeFull(t *testing.T) {
	c := replay.New(1)
	for job := range 64 {
		revokes(t, c, job, 1, api.OK)
	}
	revokes(t, c, 64, 0, api.ErrFull)
	revokes(t, c, api.MaxNum, 8, api.ErrFull)
	revokes(t, c, api.MaxNum+1, 0, api.ErrArg)
	revokes(t, c, 64, 9, api.ErrArg)
	if c.Revoked(one(64, 0, 0, 9)) || c.Revoked(one(api.MaxNum, 0, 0, 9)) {
		t.Error("R3: with an error something changed")
	}
	for job := range 64 {
		revokes(t, c, job, 3, api.OK)
		if !c.Revoked(one(job, 3, 0, 9)) || c.Revoked(one(job, 4, 0, 9)) {
			t.Errorf("P7.3: job %d", job)
		}
	}
}

// To take back leaves what is kept, and to use leaves what is taken back.
func TestRevokeAndKept(t *testing.T) {
	c := replay.New(2)
	uses(t, c, one(1, 0, 0, 10), 0, api.OK, 1)
	revokes(t, c, 1, 0, api.OK)
	if c.Len() != 1 || !c.Used(one(1, 0, 0, 10), 0) {
		t.Error("P7.4: what was taken back is dropped")
	}
	uses(t, c, one(1, 0, 0, 10), 0, api.ErrRevoked, 1)
	uses(t, c, one(1, 1, 0, 99), 10, api.OK, 1)
	if !c.Revoked(one(1, 0, 0, 10)) || c.Revoked(one(1, 1, 0, 10)) || c.Revoked(one(2, 0, 0, 10)) {
		t.Error("P7.3: Revoked")
	}
}

func TestNothingHandedInIsKeptOrChanged(t *testing.T) {
	c := replay.New(2)
	x := one(1, 0, 0, 10)
	uses(t, c, x, 0, api.OK, 1)
	c.Used(x, 0)
	c.Revoked(x)
	if !slices.Equal(x.Nodes, []int{0, 3}) {
		t.Errorf("R5: Nodes are %v", x.Nodes)
	}
	x.Nodes[0] = 99
	uses(t, c, one(1, 0, 0, 10), 0, api.ErrReplay, 1)
	other := replay.New(2)
	uses(t, other, one(1, 0, 0, 10), 0, api.OK, 1)
}
