package cred_test

import (
	"crypto/hmac"
	"crypto/sha256"
	"strings"
	"testing"

	"roundhouse/api"
	"roundhouse/cred"
	"roundhouse/wire"
)

// tagOf is the tag by the library's own means.
func tagOf(key, s string) string {
	h := hmac.New(sha256.New, []byte(key))
	h.Write([]byte(s))
	return string(h.Sum(nil))
}

func keys() []string {
	return []string{"", "k", "key", "\x00\xff", strings.Repeat("k", 64), strings.Repeat("k", 65), strings.Repeat("long", 1000)}
}

// refuses checks that a text is not opened, with that error.
func refuses(t *testing.T, key, s string, want api.Errno) {
	t.Helper()
	if c, e := cred.Open(key, s); e != want || !same(c, api.Cred{}) || len(c.Nodes) != 0 {
		t.Errorf("P6.2: Open(%q, %q): %v, %d, not %d", key, s, c, e, want)
	}
}

func TestSign(t *testing.T) {
	fine, wrong := edges()
	for _, key := range keys() {
		for _, c := range fine {
			s := cred.Sign(key, c)
			if want := bytesOf(c) + tagOf(key, bytesOf(c)); s != want {
				t.Errorf("P6.2: Sign(%q, %v): %q, not %q", key, c, s, want)
			}
			if k, e := cred.Open(key, s); e != api.OK || !same(k, c) {
				t.Errorf("P6.4: Open(%q, %q): %v, %d", key, s, k, e)
			}
		}
		for _, c := range append(wrong, api.Cred{}) {
			if s := cred.Sign(key, c); s != "" {
				t.Errorf("P6.2: Sign(%q, %v): %q", key, c, s)
			}
		}
	}
}

func TestOpenByAnotherKey(t *testing.T) {
	for i, key := range keys() {
		s := cred.Sign(key, good())
		for j, other := range keys() {
			if i != j {
				refuses(t, other, s, api.ErrTag)
			}
		}
		refuses(t, key+"x", s, api.ErrTag)
	}
}

// No bit may be turned, of what is signed or of the tag.
func TestOpenEachBit(t *testing.T) {
	s := cred.Sign("key", good())
	for i := range 8 * len(s) {
		other := []byte(s)
		other[i/8] ^= 1 << (i % 8)
		refuses(t, "key", string(other), api.ErrTag)
	}
}

func TestOpenCut(t *testing.T) {
	s := cred.Sign("key", good())
	for n := range len(s) {
		want := api.ErrTag
		if n < 32 {
			want = api.ErrCut
		}
		refuses(t, "key", s[:n], want)
		refuses(t, "key", s[len(s)-n:], want)
	}
	refuses(t, "key", s+"x", api.ErrTag)
	refuses(t, "key", "x"+s, api.ErrTag)
	refuses(t, "key", strings.Repeat("\x00", 31), api.ErrCut)
	refuses(t, "key", strings.Repeat("\x00", 32), api.ErrTag)
	refuses(t, "key", goodBytes, api.ErrCut)
}

// What was tagged rightly, and is no credential, has Decode's error.
func TestOpenOfNoCredential(t *testing.T) {
	wrongEpoch := good()
	wrongEpoch.Epoch = 9
	for _, k := range []struct {
		body string
		want api.Errno
	}{
		{"", api.ErrCut}, {goodBytes[:5], api.ErrCut}, {goodBytes + "x", api.ErrLeft}, {"\x07" + goodBytes, api.ErrLong},
		{goodBytes[:13] + wire.List(upTo(17)), api.ErrLong}, {bytesOf(wrongEpoch), api.ErrForm}, {goodBytes[:13] + wire.List(nil), api.ErrForm},
		{cred.Sign("key", good()), api.ErrLeft},
	} {
		refuses(t, "key", k.body+tagOf("key", k.body), k.want)
		refuses(t, "kex", k.body+tagOf("key", k.body), api.ErrTag)
	}
}

func TestAllows(t *testing.T) {
	whole := cred.Ask{Job: 5, Epoch: 1, Step: 300, Node: 2, Cores: 4, Now: 3}
	with := func(change func(a *cred.Ask)) cred.Ask {
		a := whole
		change(&a)
		return a
	}
	allowed := func(a cred.Ask, want api.Errno) {
		t.Helper()
		if e := cred.Allows(good(), a); e != want {
			t.Errorf("P6.3: Allows(%v): %d, not %d", a, e, want)
		}
	}
	for node := -1; node <= 17; node++ {
		want := api.ErrScope
		if node == 0 || node == 2 || node == 15 {
			want = api.OK
		}
		allowed(with(func(a *cred.Ask) { a.Node = node }), want)
	}
	for _, n := range []int{-api.MaxInt - 1, -1, 0, 5, 256, api.MaxInt} {
		allowed(with(func(a *cred.Ask) { a.Cores = n }), api.ErrScope)
	}
	for n := 1; n <= 4; n++ {
		allowed(with(func(a *cred.Ask) { a.Cores = n }), api.OK)
	}
	for now := -2; now <= 13; now++ {
		want := api.ErrTime
		if now >= 3 && now <= 9 {
			want = api.OK
		}
		allowed(with(func(a *cred.Ask) { a.Now = now }), want)
	}
	for _, now := range []int{-api.MaxInt - 1, api.MaxNum, api.MaxInt} {
		allowed(with(func(a *cred.Ask) { a.Now = now }), api.ErrTime)
	}
	for _, n := range []int{-api.MaxInt - 1, -1, 0, 2, 4, 6, 299, 301, api.MaxInt} {
		allowed(with(func(a *cred.Ask) { a.Job = n }), api.ErrScope)
		allowed(with(func(a *cred.Ask) { a.Epoch = n }), api.ErrScope)
		allowed(with(func(a *cred.Ask) { a.Step = n }), api.ErrScope)
	}
}

// What may not be counts ahead of the scope, and the scope ahead of the time.
func TestAllowsInOrder(t *testing.T) {
	fit := cred.Ask{Job: 5, Epoch: 1, Step: 300, Node: 2, Cores: 4, Now: 3}
	_, wrong := edges()
	for _, c := range append(wrong, api.Cred{}) {
		for _, a := range []cred.Ask{{}, fit, {Job: c.Job, Epoch: c.Epoch, Step: c.Step, Node: 2, Cores: 4, Now: 3}, {Job: 4, Now: 99}} {
			if e := cred.Allows(c, a); e != api.ErrArg {
				t.Errorf("P6.3: Allows(%v, %v): %d", c, a, e)
			}
		}
	}
	for i, spoil := range []func(a *cred.Ask){
		func(a *cred.Ask) { a.Job = 6 }, func(a *cred.Ask) { a.Epoch = 0 }, func(a *cred.Ask) { a.Step = 3 },
		func(a *cred.Ask) { a.Node = 1 }, func(a *cred.Ask) { a.Cores = 0 }, func(a *cred.Ask) { a.Cores = 5 },
	} {
		for _, now := range []int{2, 10} {
			a := fit
			a.Now = now
			if e := cred.Allows(good(), a); e != api.ErrTime {
				t.Errorf("P6.3: at %d: %d", now, e)
			}
			if spoil(&a); cred.Allows(good(), a) != api.ErrScope {
				t.Errorf("P6.3: case %d, at %d: %d", i, now, cred.Allows(good(), a))
			}
		}
	}
}

func TestAllowsOfNoTime(t *testing.T) {
	for _, span := range [][2]int{{0, 0}, {3, 3}, {10, 3}, {api.MaxNum, api.MaxNum}} {
		c := good()
		c.From, c.Until = span[0], span[1]
		for _, now := range []int{0, 2, 3, 4, 9, 10, 11, api.MaxNum} {
			if e := cred.Allows(c, cred.Ask{Job: 5, Epoch: 1, Step: 300, Node: 2, Cores: 4, Now: now}); e != api.ErrTime {
				t.Errorf("P6.3: from %d until %d, at %d: %d", span[0], span[1], now, e)
			}
		}
	}
}

func TestAllowsAtTheLimits(t *testing.T) {
	c := api.Cred{Job: api.MaxNum, Epoch: api.MaxEpoch, Step: api.MaxNum, Until: api.MaxNum, Nodes: upTo(16), Cores: 256}
	for node := range 16 {
		for _, now := range []int{0, api.MaxNum - 1} {
			if e := cred.Allows(c, cred.Ask{Job: api.MaxNum, Epoch: api.MaxEpoch, Step: api.MaxNum, Node: node, Cores: 256, Now: now}); e != api.OK {
				t.Errorf("P6.3: node %d at %d: %d", node, now, e)
			}
		}
	}
}
