package agent_test

import (
	"math"
	"strings"
	"testing"

	"roundhouse/agent"
	"roundhouse/api"
	"roundhouse/wire"
)

// bytesOf is what the document says that an order's bytes are.
func bytesOf(o agent.Order) string {
	return wire.Text(o.Cred) + wire.Num(o.Ranks) + wire.Num(o.Per) + wire.Num(o.Dist) + wire.Num(o.Limit)
}

// mayBe is orders that may be, at the edges.
func mayBe() []agent.Order {
	return []agent.Order{
		{Cred: "ab", Ranks: 2, Per: 3, Dist: 1, Limit: 300},
		{Ranks: 1, Per: 1, Limit: 1},
		{Cred: strings.Repeat("\xff", 400), Ranks: 32, Per: 256, Dist: 1, Limit: 1 << 30},
		{Cred: "\x00", Ranks: 31, Per: 255, Limit: 1<<30 - 1},
	}
}

// mayNotBe is orders that may not be, each for one thing, and bytes that tell them.
func mayNotBe() []agent.Order {
	fine := agent.Order{Cred: "ab", Ranks: 2, Per: 3, Dist: 1, Limit: 300}
	var l []agent.Order
	add := func(change func(o *agent.Order)) {
		o := fine
		change(&o)
		l = append(l, o)
	}
	for _, n := range []int{401, 402, 4096, 4097} {
		add(func(o *agent.Order) { o.Cred = strings.Repeat("x", n) })
	}
	for _, n := range []int{math.MinInt, -1, 0, 33, 257, math.MaxInt} {
		add(func(o *agent.Order) { o.Ranks = n })
	}
	for _, n := range []int{math.MinInt, -1, 0, 257, 4096, math.MaxInt} {
		add(func(o *agent.Order) { o.Per = n })
	}
	for _, n := range []int{math.MinInt, -1, 2, 256, math.MaxInt} {
		add(func(o *agent.Order) { o.Dist = n })
	}
	for _, n := range []int{math.MinInt, -1, 0, 1<<30 + 1, 1 << 40, math.MaxInt} {
		add(func(o *agent.Order) { o.Limit = n })
	}
	return append(l, agent.Order{})
}

func TestPack(t *testing.T) {
	if s := agent.Pack(mayBe()[0]); s != "\x01\x02ab\x01\x02\x01\x03\x01\x01\x02\x01\x2c" {
		t.Errorf("P17.1: Pack = %q", s)
	}
	for _, o := range mayBe() {
		s := agent.Pack(o)
		if s != bytesOf(o) {
			t.Errorf("P17.1: Pack(%v) = %q", o, s)
		}
		if x, e := agent.Unpack(s); x != o || e != api.OK {
			t.Errorf("P17.1: Unpack(%q) = %v, %d", s, x, e)
		}
	}
	for _, o := range mayNotBe() {
		if s := agent.Pack(o); s != "" {
			t.Errorf("P17.1: Pack(%v) = %q", o, s)
		}
	}
}

func unpacks(t *testing.T, s string, want api.Errno) {
	t.Helper()
	if o, e := agent.Unpack(s); o != (agent.Order{}) || e != want {
		t.Errorf("P17.1: Unpack(%q) = %v, %d, want %d", s, o, e, want)
	}
}

func TestUnpackWrong(t *testing.T) {
	for _, o := range mayBe() {
		s := bytesOf(o)
		for n := range len(s) {
			unpacks(t, s[:n], api.ErrCut)
		}
		unpacks(t, s+"\x00", api.ErrLeft)
		unpacks(t, s+s, api.ErrLeft)
		unpacks(t, "\x07"+s, api.ErrLong)
	}
	// Numbers that wire can write, and that are an order's.
	for _, o := range mayNotBe() {
		if o.Ranks < 0 || o.Per < 0 || o.Dist < 0 || o.Limit < 0 || max(o.Ranks, o.Per, o.Dist, o.Limit) > api.MaxNum {
			continue
		}
		if len(o.Cred) > api.MaxText {
			unpacks(t, wire.Num(len(o.Cred))+o.Cred+bytesOf(mayBe()[1])[1:], api.ErrLong)
			continue
		}
		unpacks(t, bytesOf(o), api.ErrForm)
		// What a reader finds comes ahead of what it says.
		unpacks(t, bytesOf(o)+"\x00", api.ErrLeft)
	}
	// A number that is written in another way.
	unpacks(t, "\x00\x02\x00\x01\x01\x01\x00\x01\x01", api.ErrLong)
	unpacks(t, "\x00\x01\x01\x01\x01\x00\x02\x00\x01", api.ErrLong)
	unpacks(t, "\x00\x01\x01\x01\x01\x01\x00\x01\x01", api.ErrLong)
}
