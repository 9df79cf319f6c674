package acct_test

import (
	"math"
	"math/big"
	"slices"
	"testing"

	"roundhouse/acct"
	"roundhouse/api"
)

const most = 1<<63 - 1

// edges are numbers around which a sum or a product passes the most.
func edges() []int {
	l := []int{math.MinInt, math.MinInt + 1, -1 << 32, -7, most, most / 2, most / 3, most/2 + 1, most/3 + 1, 3037000499, 3037000500}
	for n := 1; n <= 4; n++ {
		l = append(l, -n, n, most-n)
	}
	for bit := range 63 {
		l = append(l, 1<<bit-1, 1<<bit, 1<<bit+1)
	}
	return l
}

// capped is what the document asks for: the number, or the most, if that is above it.
func capped(n *big.Int) int {
	if n.Cmp(big.NewInt(most)) > 0 {
		return most
	}
	return int(n.Int64())
}

// counted is n as a number of any length; below 0 it counts as 0.
func counted(n int) *big.Int {
	if n < 0 {
		n = 0
	}
	return big.NewInt(int64(n))
}

func TestAddAndTimes(t *testing.T) {
	for _, a := range edges() {
		for _, b := range edges() {
			if want, got := capped(new(big.Int).Add(counted(a), counted(b))), acct.Add(a, b); got != want {
				t.Errorf("P11.1: Add(%d, %d): %d, not %d", a, b, got, want)
			}
			if want, got := capped(new(big.Int).Mul(counted(a), counted(b))), acct.Times(a, b); got != want {
				t.Errorf("P11.1: Times(%d, %d): %d, not %d", a, b, got, want)
			}
		}
	}
}

func TestAddAndTimesByHand(t *testing.T) {
	for _, c := range []struct{ a, b, sum, product int }{
		{0, 0, 0, 0},
		{3, 4, 7, 12},
		{1, most, most, most},
		{0, most, most, 0},
		{2, most / 2, most/2 + 2, most - 1},
		{2, most/2 + 1, most/2 + 3, most},
		{7, most / 7, most/7 + 7, most},
		{7, most/7 - 1, most/7 + 6, most - 7},
		{-3, -4, 0, 0},
		{-3, 4, 4, 0},
		{math.MinInt, most, most, 0},
		{1 << 62, 2, 1<<62 + 2, most},
	} {
		for _, n := range [][2]int{{c.a, c.b}, {c.b, c.a}} {
			if got := acct.Add(n[0], n[1]); got != c.sum {
				t.Errorf("P11.1: Add(%d, %d): %d, not %d", n[0], n[1], got, c.sum)
			}
			if got := acct.Times(n[0], n[1]); got != c.product {
				t.Errorf("P11.1: Times(%d, %d): %d, not %d", n[0], n[1], got, c.product)
			}
		}
	}
}

// isOf checks what Of answers.
func isOf(t *testing.T, u acct.Use, want int, wantErr api.Errno) {
	t.Helper()
	if n, e := acct.Of(u); n != want || e != wantErr {
		t.Errorf("P11.2: Of(%v): %d, %d, not %d, %d", u, n, e, want, wantErr)
	}
}

func TestOf(t *testing.T) {
	isOf(t, acct.Use{}, 0, api.OK)
	isOf(t, acct.Use{Job: 1, Cores: 4, From: 3, To: 10}, 28, api.OK)
	isOf(t, acct.Use{Job: api.MaxNum, Cores: 4, To: 10}, 40, api.OK)
	isOf(t, acct.Use{Cores: 4, From: 10, To: 10}, 0, api.OK)
	isOf(t, acct.Use{Cores: 0, From: 3, To: 10}, 0, api.OK)
	isOf(t, acct.Use{Cores: 1, From: most, To: most}, 0, api.OK)
	isOf(t, acct.Use{Cores: 1, From: most - 5, To: most}, 5, api.OK)
	isOf(t, acct.Use{Cores: 1, To: most}, most, api.OK)
	isOf(t, acct.Use{Cores: most, To: most}, most, api.OK)
	isOf(t, acct.Use{Cores: 1 << 32, From: 1 << 31, To: 1 << 32}, most, api.OK)
	isOf(t, acct.Use{Cores: 1 << 31, From: 1 << 31, To: 1 << 32}, 1<<62, api.OK)
}

func wrongUses() []acct.Use {
	return []acct.Use{
		{Job: -1, Cores: 2, To: 3},
		{Job: math.MinInt, Cores: 2, To: 3},
		{Job: api.MaxNum + 1, Cores: 2, To: 3},
		{Job: most, Cores: 2, To: 3},
		{Cores: -1, To: 3},
		{Cores: math.MinInt, To: 3},
		{Cores: 2, From: -1, To: 3},
		{Cores: 2, From: -1, To: -1},
		{Cores: 2, From: math.MinInt, To: most},
		{Cores: 2, From: math.MinInt, To: math.MinInt},
		{Cores: 2, From: 4, To: 3},
		{Cores: 0, From: 4, To: 3},
		{Cores: 2, From: 0, To: -1},
		{Cores: 2, From: most, To: math.MinInt},
	}
}

func TestOfWrong(t *testing.T) {
	for _, u := range wrongUses() {
		isOf(t, u, 0, api.ErrArg)
	}
}

// notes checks what Note answers.
func notes(t *testing.T, b *acct.Book, u acct.Use, want api.Errno) {
	t.Helper()
	if e := b.Note(u); e != want {
		t.Errorf("P11.3: Note(%v): %d, not %d", u, e, want)
	}
}

// has checks what a book tells of all jobs, and which they are.
func has(t *testing.T, b *acct.Book, all int, jobs ...int) {
	t.Helper()
	if b.All() != all || !slices.Equal(b.Jobs(), jobs) {
		t.Errorf("P11.3: All: %d, Jobs: %v, not %d, %v", b.All(), b.Jobs(), all, jobs)
	}
}

// isJob checks what a book tells of a job.
func isJob(t *testing.T, b *acct.Book, job, want int) {
	t.Helper()
	if n := b.Job(job); n != want {
		t.Errorf("P11.3: Job(%d): %d, not %d", job, n, want)
	}
}

func TestNew(t *testing.T) {
	b := acct.New()
	if b == nil {
		t.Fatal("P11.3: New is nil")
	}
	has(t, b, 0)
	for _, job := range []int{math.MinInt, -1, 0, 1, api.MaxNum, api.MaxNum + 1, math.MaxInt} {
		isJob(t, b, job, 0)
	}
	has(t, b, 0)
	notes(t, b, acct.Use{Job: 3, Cores: 2, To: 5}, api.OK)
	has(t, b, 10, 3)
	has(t, acct.New(), 0)
}

func TestNil(t *testing.T) {
	var b *acct.Book
	notes(t, b, acct.Use{Job: 3, Cores: 2, To: 5}, api.ErrArg)
	notes(t, b, acct.Use{Job: -1}, api.ErrArg)
	has(t, b, 0)
	isJob(t, b, 3, 0)
}

// A book that New did not make is one in which nothing is.
func TestZeroBook(t *testing.T) {
	b := &acct.Book{}
	has(t, b, 0)
	isJob(t, b, 3, 0)
	notes(t, b, acct.Use{Job: 3, Cores: 2, To: 5}, api.OK)
	isJob(t, b, 3, 10)
	has(t, b, 10, 3)
}

func TestNote(t *testing.T) {
	b := acct.New()
	notes(t, b, acct.Use{Job: 30, Cores: 2, From: 1, To: 5}, api.OK)
	notes(t, b, acct.Use{Job: 4, Cores: 1, To: 6}, api.OK)
	notes(t, b, acct.Use{Job: 30, Cores: 3, From: 5, To: 6}, api.OK)
	notes(t, b, acct.Use{Job: api.MaxNum, Cores: 1, To: 1}, api.OK)
	notes(t, b, acct.Use{Job: 0, Cores: 1, To: 100}, api.OK)
	isJob(t, b, 30, 11)
	isJob(t, b, 4, 6)
	isJob(t, b, api.MaxNum, 1)
	isJob(t, b, 0, 100)
	isJob(t, b, 5, 0)
	has(t, b, 118, 0, 4, 30, api.MaxNum)
	// The same use again is added again.
	notes(t, b, acct.Use{Job: 4, Cores: 1, To: 6}, api.OK)
	isJob(t, b, 4, 12)
	has(t, b, 124, 0, 4, 30, api.MaxNum)
}

// A job of which 0 was noted is one of the jobs, one that was merely asked for is not.
func TestNoteOfNothing(t *testing.T) {
	b := acct.New()
	notes(t, b, acct.Use{Job: 9, Cores: 5, From: 4, To: 4}, api.OK)
	notes(t, b, acct.Use{Job: 2, Cores: 0, From: 4, To: 9}, api.OK)
	isJob(t, b, 7, 0)
	has(t, b, 0, 2, 9)
}

func TestNoteWrong(t *testing.T) {
	b := acct.New()
	for _, u := range wrongUses() {
		notes(t, b, u, api.ErrArg)
	}
	has(t, b, 0)
	notes(t, b, acct.Use{Job: 0, Cores: 2, To: 3}, api.OK)
	for _, u := range wrongUses() {
		notes(t, b, u, api.ErrArg)
	}
	isJob(t, b, 0, 6)
	has(t, b, 6, 0)
}

// A job's core-ticks, and all jobs', stay at the most when they have come to it.
func TestMost(t *testing.T) {
	b := acct.New()
	notes(t, b, acct.Use{Job: 1, Cores: most - 1, To: 1}, api.OK)
	isJob(t, b, 1, most-1)
	notes(t, b, acct.Use{Job: 2, Cores: 1, To: 1}, api.OK)
	has(t, b, most, 1, 2)
	notes(t, b, acct.Use{Job: 2, Cores: 1, To: 1}, api.OK)
	has(t, b, most, 1, 2)
	notes(t, b, acct.Use{Job: 1, Cores: 1, To: 1}, api.OK)
	isJob(t, b, 1, most)
	notes(t, b, acct.Use{Job: 1, Cores: 1, To: 1}, api.OK)
	notes(t, b, acct.Use{Job: 1, Cores: most, To: most}, api.OK)
	isJob(t, b, 1, most)
	isJob(t, b, 2, 2)
	has(t, b, most, 1, 2)
}

// What was answered is the caller's.
func TestJobsIsNew(t *testing.T) {
	b := acct.New()
	for job := range 5 {
		notes(t, b, acct.Use{Job: job, Cores: 1, To: 1}, api.OK)
	}
	jobs := b.Jobs()
	notes(t, b, acct.Use{Job: 8, Cores: 1, To: 1}, api.OK)
	if !slices.Equal(jobs, []int{0, 1, 2, 3, 4}) {
		t.Errorf("R5: %v", jobs)
	}
	for i := range jobs {
		jobs[i] = 77
	}
	has(t, b, 6, 0, 1, 2, 3, 4, 8)
}
