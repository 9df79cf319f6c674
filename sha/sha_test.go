package sha_test

import (
	"crypto/hmac"
	"crypto/sha256"
	"encoding/hex"
	"strings"
	"testing"

	"roundhouse/sha"
)

// sample is n bytes that hang on n and seed, of all 256 kinds.
func sample(n int, seed uint32) string {
	out := make([]byte, n)
	x := seed*2654435761 + uint32(n)
	for i := range out {
		x = x*1664525 + 1013904223
		out[i] = byte(x >> 24)
	}
	return string(out)
}

func wantDigest(s string) string {
	d := sha256.Sum256([]byte(s))
	return string(d[:])
}

func wantTag(key, s string) string {
	h := hmac.New(sha256.New, []byte(key))
	h.Write([]byte(s))
	return string(h.Sum(nil))
}

func TestOfKnown(t *testing.T) {
	for _, c := range []struct{ s, want string }{
		{"", "e3b0c44298fc1c149afbf4c8996fb92427ae41e4649b934ca495991b7852b855"},
		{"abc", "ba7816bf8f01cfea414140de5dae2223b00361a396177a9cb410ff61f20015ad"},
		{"abcdbcdecdefdefgefghfghighijhijkijkljklmklmnlmnomnopnopq", "248d6a61d20638b8e5c026930c3e6039a33ce45964ff2167f6ecedd419db06c1"},
		{strings.Repeat("a", 1000000), "cdc76e5c9914fb9281a1c7e284d73e67f1809a48a497200e046d39ccc7112cd0"},
	} {
		if got := sha.Hex(sha.Of(c.s)); got != c.want {
			t.Errorf("P1.1: Of %d bytes: %s, not %s", len(c.s), got, c.want)
		}
	}
}

// The lengths go past four blocks, so that each place where the padding may begin is met, 55, 56, 63 and 64 among them.
func TestOfLengths(t *testing.T) {
	for n := range 4*64 + 2 {
		for _, s := range []string{sample(n, 1), sample(n, 2), strings.Repeat("\x00", n), strings.Repeat("\xff", n)} {
			if sha.Of(s) != wantDigest(s) {
				t.Errorf("P1.1: Of %q: %x", s, sha.Of(s))
			}
		}
	}
}

// A length of 2^13 bytes and more takes more than two of the eight bytes that tell it.
func TestOfLong(t *testing.T) {
	for _, n := range []int{8191, 8192, 1<<21 - 1, 1 << 21} {
		if s := sample(n, 3); sha.Of(s) != wantDigest(s) {
			t.Errorf("P1.1: Of %d bytes", n)
		}
	}
}

func TestHex(t *testing.T) {
	if got := sha.Hex(""); got != "" {
		t.Errorf("P1.1: Hex of nothing: %q", got)
	}
	all := ""
	for b := range 256 {
		s := string([]byte{byte(b)})
		all += s
		if got := sha.Hex(s); got != hex.EncodeToString([]byte(s)) {
			t.Errorf("P1.1: Hex %q: %q", s, got)
		}
	}
	if got := sha.Hex(all); got != hex.EncodeToString([]byte(all)) {
		t.Errorf("P1.1: Hex of all bytes: %q", got)
	}
	if got := sha.Hex("é"); got != "c3a9" {
		t.Errorf("P1.1: Hex goes by bytes: %q", got)
	}
}

func TestHmacKnown(t *testing.T) {
	for i, c := range []struct{ key, s, want string }{
		{"Jefe", "what do ya want for nothing?", "5bdcc146bf60754e6a042426089575c75a003f089d2739839dec58b964ec3843"},
		{strings.Repeat("\x0b", 20), "Hi There", "b0344c61d8db38535ca8afceaf0bf12b881dc200c9833da726e9376c2e32cff7"},
		{strings.Repeat("\xaa", 131), "Test Using Larger Than Block-Size Key - Hash Key First", "60e431591ee0b67f0d8a26aacbf5b77f8e0bc6213728c5140546040f0ee37f54"},
		{"", "", "b613679a0814d9ec772f95d778c35fc5ff1697c493715653c6c712144292c5ad"},
	} {
		if got := sha.Hex(sha.Hmac(c.key, c.s)); got != c.want {
			t.Errorf("P1.2: case %d: %s, not %s", i, got, c.want)
		}
	}
}

func TestHmacLengths(t *testing.T) {
	for k := range 131 {
		for _, n := range []int{0, 1, 31, 32, 55, 56, 63, 64, 65, 200} {
			key, s := sample(k, 4), sample(n, 5)
			if sha.Hmac(key, s) != wantTag(key, s) {
				t.Errorf("P1.2: a key of %d bytes, %d bytes: %x", k, n, sha.Hmac(key, s))
			}
		}
	}
}

func TestHmacKeys(t *testing.T) {
	whole, longer := sample(64, 6), sample(65, 6)
	if sha.Hmac(longer, "s") != sha.Hmac(sha.Of(longer), "s") {
		t.Error("P1.2: the digest is in the place of a key of 65 bytes")
	}
	if sha.Hmac(whole, "s") == sha.Hmac(sha.Of(whole), "s") {
		t.Error("P1.2: a key of 64 bytes stays as it is")
	}
	if sha.Hmac("k", "s") != sha.Hmac("k"+strings.Repeat("\x00", 63), "s") {
		t.Error("P1.2: bytes 0 are laid behind a key, up to 64")
	}
	if sha.Hmac("k", "s") == sha.Hmac("k"+strings.Repeat("\x00", 64), "s") {
		t.Error("P1.2: a key of 65 bytes is another one")
	}
}

func TestSame(t *testing.T) {
	for _, c := range []struct {
		a, b string
		want bool
	}{
		{"", "", true}, {"", "\x00", false}, {"\x00", "\x00\x00", false}, {"abc", "abc", true},
		{"abc", "ab", false}, {"abc", "abcd", false}, {"abc", "ABC", false}, {"ab", "ba", false},
		{"\xff\xfe", "\xff\xfe", true}, {"\xff\xfe", "\xff\xfd", false}, {"\x80", "\x00", false},
	} {
		if sha.Same(c.a, c.b) != c.want || sha.Same(c.b, c.a) != c.want {
			t.Errorf("P1.2: Same(%q, %q) is not %v", c.a, c.b, c.want)
		}
	}
}

func TestSameEachBit(t *testing.T) {
	tag := sha.Of("x")
	if !sha.Same(tag, sha.Of("x")) {
		t.Error("P1.2: a digest is the same as itself")
	}
	for i := range 8 * len(tag) {
		other := []byte(tag)
		other[i/8] ^= 1 << (i % 8)
		if sha.Same(tag, string(other)) {
			t.Errorf("P1.2: bit %d differs", i)
		}
	}
	// Two bytes that differ by the same bits must not make up for each other.
	if sha.Same("\x01\x01", "\x02\x02") {
		t.Error("P1.2: both bytes differ")
	}
}

func TestDigestLength(t *testing.T) {
	for n := range 200 {
		if d := sha.Of(sample(n, 7)); len(d) != 32 {
			t.Errorf("P1.3: Of %d bytes: %d bytes", n, len(d))
		}
		if d := sha.Hmac(sample(n, 8), sample(n, 9)); len(d) != 32 {
			t.Errorf("P1.3: Hmac of %d bytes: %d bytes", n, len(d))
		}
	}
}

func TestSameAgain(t *testing.T) {
	s, key := sample(100, 10), sample(70, 11)
	digest, tag := sha.Of(s), sha.Hmac(key, s)
	sha.Of("something else")
	if sha.Of(s) != digest || sha.Hmac(key, s) != tag {
		t.Error("R6: the same again is not the same")
	}
}
