// Package sha is layer 1, digests and tags of bytes: see shared/doc/01-sha.md.
package sha

import "math/bits"

const (
	blockLen = 64
	innerPad = 54
	outerPad = 92
	digits   = "0123456789abcdef"
)

// start is h[0] to h[7] ahead of the first block.
var start = [8]uint32{
	0x6a09e667, 0xbb67ae85, 0x3c6ef372, 0xa54ff53a, 0x510e527f, 0x9b05688c, 0x1f83d9ab, 0x5be0cd19,
}

// roots is K: written out, as cube roots would ask for more than 64 bits.
var roots = [64]uint32{
	0x428a2f98, 0x71374491, 0xb5c0fbcf, 0xe9b5dba5, 0x3956c25b, 0x59f111f1, 0x923f82a4, 0xab1c5ed5,
	0xd807aa98, 0x12835b01, 0x243185be, 0x550c7dc3, 0x72be5d74, 0x80deb1fe, 0x9bdc06a7, 0xc19bf174,
	0xe49b69c1, 0xefbe4786, 0x0fc19dc6, 0x240ca1cc, 0x2de92c6f, 0x4a7484aa, 0x5cb0a9dc, 0x76f988da,
	0x983e5152, 0xa831c66d, 0xb00327c8, 0xbf597fc7, 0xc6e00bf3, 0xd5a79147, 0x06ca6351, 0x14292967,
	0x27b70a85, 0x2e1b2138, 0x4d2c6dfc, 0x53380d13, 0x650a7354, 0x766a0abb, 0x81c2c92e, 0x92722c85,
	0xa2bfe8a1, 0xa81a664b, 0xc24b8b70, 0xc76c51a3, 0xd192e819, 0xd6990624, 0xf40e3585, 0x106aa070,
	0x19a4c116, 0x1e376c08, 0x2748774c, 0x34b0bcb5, 0x391c0cb3, 0x4ed8aa4a, 0x5b9cca4f, 0x682e6ff3,
	0x748f82ee, 0x78a5636f, 0x84c87814, 0x8cc70208, 0x90befffa, 0xa4506ceb, 0xbef9a3f7, 0xc67178f2,
}

// Of is the digest of s, 32 bytes.
func Of(s string) string {
	// The blocks that s fills are read where they stand, so that a long text is not copied.
	whole := len(s) - len(s)%blockLen
	h := mixAll(start, s[:whole])
	h = mixAll(h, s[whole:]+padding(len(s)))
	return bytesOf(h)
}

// Hmac is the tag of s by a key.
func Hmac(key string, s string) string {
	if len(key) > blockLen {
		key = Of(key)
	}
	return Of(padded(key, outerPad) + Of(padded(key, innerPad)+s))
}

// Same says whether a and b are the same bytes.
func Same(a string, b string) bool {
	if len(a) != len(b) {
		return false
	}
	// All bytes are looked at: how long it takes must not tell how much of a tag was guessed.
	var differ byte
	for i := range len(a) {
		differ |= a[i] ^ b[i]
	}
	return differ == 0
}

// Hex is s with two digits for each byte.
func Hex(s string) string {
	out := make([]byte, 2*len(s))
	for i := range len(s) {
		out[2*i] = digits[s[i]>>4]
		out[2*i+1] = digits[s[i]&15]
	}
	return string(out)
}

// padding is what is laid behind n bytes, up to a whole block.
func padding(n int) string {
	zeros := (blockLen + 55 - n%blockLen) % blockLen
	out := make([]byte, 1+zeros+8)
	out[0] = 128
	length := 8 * uint64(n)
	for i := range 8 {
		out[1+zeros+i] = byte(length >> (56 - 8*i))
	}
	return string(out)
}

// padded is a key of at most a block, filled up by bytes 0, each byte xor x.
func padded(key string, x byte) string {
	out := make([]byte, blockLen)
	copy(out, key)
	for i := range blockLen {
		out[i] ^= x
	}
	return string(out)
}

// mixAll mixes h with the blocks of s.
func mixAll(h [8]uint32, s string) [8]uint32 {
	for i := range len(s) / blockLen {
		h = mix(h, s[blockLen*i:])
	}
	return h
}

// mix is h behind the block that s begins with.
func mix(h [8]uint32, s string) [8]uint32 {
	w := schedule(s)
	v := h
	for i := range 64 {
		a, b, c := v[0], v[1], v[2]
		e, f, g := v[4], v[5], v[6]
		t := v[7] + (rot(e, 6) ^ rot(e, 11) ^ rot(e, 25)) + (e&f ^ ^e&g) + roots[i] + w[i]
		u := (rot(a, 2) ^ rot(a, 13) ^ rot(a, 22)) + (a&b ^ a&c ^ b&c)
		copy(v[1:], v[:7])
		v[4] += t
		v[0] = t + u
	}
	for i := range 8 {
		h[i] += v[i]
	}
	return h
}

// schedule is w[0] to w[63] of the block that s begins with.
func schedule(s string) [64]uint32 {
	var w [64]uint32
	for i := range 16 {
		w[i] = wordAt(s, 4*i)
	}
	for i := range 48 {
		y, z := w[i+1], w[i+14]
		w[i+16] = w[i] + (rot(y, 7) ^ rot(y, 18) ^ y>>3) + w[i+9] + (rot(z, 17) ^ rot(z, 19) ^ z>>10)
	}
	return w
}

// wordAt is the word of the four bytes of s from a place on.
func wordAt(s string, at int) uint32 {
	return uint32(s[at])<<24 | uint32(s[at+1])<<16 | uint32(s[at+2])<<8 | uint32(s[at+3])
}

// bytesOf is the words' bytes, the highest of each first.
func bytesOf(h [8]uint32) string {
	var out [32]byte
	for i := range 32 {
		out[i] = byte(h[i/4] >> (24 - i%4*8))
	}
	return string(out[:])
}

// rot is x, its bits turned right by n places.
func rot(x uint32, n int) uint32 {
	return bits.RotateLeft32(x, -n)
}
