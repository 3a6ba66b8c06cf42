// Package gold is layer 1: numbers modulo 2^64 - 2^32 + 1: see shared/doc/01-gold.md.
package gold

import (
	"math/bits"

	"tallyman/api"
)

// P is the modulus.
const P = 1<<64 - 1<<32 + 1

// Roots is how often P - 1 can be halved.
const Roots = 32

// generator has all numbers but 0 among its powers.
const generator = 7

// In: is it a number of the field?
func In(a uint64) bool { return a < P }

// Of: a number modulo P.
func Of(a uint64) uint64 {
	// One subtraction is enough: 2 * P is above all that a uint64 holds.
	if a >= P {
		return a - P
	}
	return a
}

// Add: a and b.
func Add(a, b uint64) uint64 {
	// a less (P less b) never leaves 64 bits, where a and b together would.
	return Sub(a, Neg(b))
}

// Neg: 0 less a.
func Neg(a uint64) uint64 {
	a = Of(a)
	if a == 0 {
		return 0
	}
	return P - a
}

// Sub: a less b.
func Sub(a, b uint64) uint64 {
	a, b = Of(a), Of(b)
	if a < b {
		return P - (b - a)
	}
	return a - b
}

// Mul: a times b.
func Mul(a, b uint64) uint64 {
	high, low := bits.Mul64(a, b)
	return bits.Rem64(high, low, P)
}

// Pow: a, so many times by itself.
func Pow(a, n uint64) uint64 {
	power := uint64(1)
	for ; n > 0; n >>= 1 {
		if n&1 == 1 {
			power = Mul(power, a)
		}
		a = Mul(a, a)
	}
	return power
}

// Inv: by which a has to be multiplied to be 1; of 0 there is none.
func Inv(a uint64) (uint64, api.Errno) {
	if Of(a) == 0 {
		return 0, api.ErrDivide
	}
	return Pow(a, P-2), api.OK
}

// Root: a root of 1 of order 2^log.
func Root(log int) (uint64, api.Errno) {
	if log < 0 || log > Roots {
		return 0, api.ErrRange
	}
	return Pow(generator, (P-1)>>uint(log)), api.OK
}

// Bytes: a number as eight bytes, the lowest first.
func Bytes(a uint64) [8]byte {
	a = Of(a)
	var b [8]byte
	for i := range b {
		b[i] = byte(a >> (8 * uint(i)))
	}
	return b
}

// Take: back; what isn't below P is no number.
func Take(b [8]byte) (uint64, api.Errno) {
	var a uint64
	for i, x := range b {
		a |= uint64(x) << (8 * uint(i))
	}
	if !In(a) {
		return 0, api.ErrField
	}
	return a, api.OK
}
