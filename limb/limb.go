// Package limb is layer 1: whole numbers of 128 bits, and products of 256.
package limb

import "math/bits"

// Limb is Hi times 2^64, and Lo.
type Limb struct{ Hi, Lo uint64 }

// Add answers the sum, less 2^128 if it is that or more, and whether it is.
func Add(a, b Limb) (Limb, bool) {
	lo, carry := bits.Add64(a.Lo, b.Lo, 0)
	hi, carry := bits.Add64(a.Hi, b.Hi, carry)
	return Limb{Hi: hi, Lo: lo}, carry == 1
}

// Sub answers the difference, and 2^128 more if a is less than b, and whether it is.
func Sub(a, b Limb) (Limb, bool) {
	lo, borrow := bits.Sub64(a.Lo, b.Lo, 0)
	hi, borrow := bits.Sub64(a.Hi, b.Hi, borrow)
	return Limb{Hi: hi, Lo: lo}, borrow == 1
}

// Cmp answers -1, if a is less than b, 1, if it is greater, else 0.
func Cmp(a, b Limb) int {
	if a == b {
		return 0
	}
	if _, less := Sub(a, b); less {
		return -1
	}
	return 1
}

// Mul answers the product: hi times 2^128, and lo.
func Mul(a, b Limb) (hi, lo Limb) {
	x := [2]uint64{a.Lo, a.Hi}
	y := [2]uint64{b.Lo, b.Hi}
	var words [4]uint64 // of the product, the least first
	for i := range 2 {
		var carry uint64
		for j := range 2 {
			words[i+j], carry = mulAdd(x[i], y[j], words[i+j], carry)
		}
		words[i+2] = carry
	}
	return Limb{Hi: words[3], Lo: words[2]}, Limb{Hi: words[1], Lo: words[0]}
}

// mulAdd answers x times y, and w and carry, as a word and what is carried to the next.
// Two words always hold it: (2^64-1)^2 and twice 2^64-1 are 2^128-1 together.
func mulAdd(x, y, w, carry uint64) (word, next uint64) {
	next, word = bits.Mul64(x, y)
	word, c := bits.Add64(word, w, 0)
	next += c
	word, c = bits.Add64(word, carry, 0)
	next += c
	return word, next
}

// Div answers hi and lo by d, rounded down, and what is left then; false, if the quotient does not fit or d is 0.
func Div(hi, lo, d Limb) (q, r Limb, ok bool) {
	if Cmp(hi, d) >= 0 {
		return Limb{}, Limb{}, false
	}
	r = hi
	for range 128 {
		var bit uint64
		lo, bit = double(lo, 0)
		r, bit = step(r, bit, d)
		q, _ = double(q, bit)
	}
	return q, r, true
}

// step takes d off twice r and bit, if it is in there, and answers what is left and how often d was in it.
// It is so at most once: r is below d, and what is left is so again.
func step(r Limb, bit uint64, d Limb) (left Limb, times uint64) {
	left, out := double(r, bit)
	if out == 0 && Cmp(left, d) < 0 {
		return left, 0
	}
	// Where a bit went out, the difference borrows it back.
	left, _ = Sub(left, d)
	return left, 1
}

// double answers twice a, with bit as its lowest one, and the bit that has no room any more.
func double(a Limb, bit uint64) (twice Limb, out uint64) {
	return Limb{Hi: a.Hi<<1 | a.Lo>>63, Lo: a.Lo<<1 | bit}, a.Hi >> 63
}
