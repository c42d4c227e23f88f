// Package exact is layer 1: whole numbers that don't go round.
package exact

import (
	"math/bits"

	"almanacker/api"
)

// Add tells the sum of a and b; ErrOver, if 64 bits don't hold it.
func Add(a, b int) (int, api.Errno) {
	low, _ := bits.Add64(uint64(a), uint64(b), 0)
	sum := int(low)
	// Only numbers of one sign can go beyond, and what goes round has the other sign.
	if (a < 0) == (b < 0) && (sum < 0) != (a < 0) {
		return 0, api.ErrOver
	}
	return sum, api.OK
}

// Mul tells the product of a and b; ErrOver, if 64 bits don't hold it.
func Mul(a, b int) (int, api.Errno) {
	high, low := bits.Mul64(size(a), size(b))
	below := (a < 0) != (b < 0)
	product := int(low)
	if below {
		product = int(-low)
	}
	if high != 0 || product != 0 && (product < 0) != below {
		return 0, api.ErrOver
	}
	return product, api.OK
}

// Div tells a divided by b, rounded down; ErrArg, unless b is above 0.
func Div(a, b int) (int, api.Errno) {
	if b <= 0 {
		return 0, api.ErrArg
	}
	quotient := a / b
	if a%b < 0 {
		quotient--
	}
	return quotient, api.OK
}

// Mod tells what Div leaves, from 0 to below b; ErrArg, unless b is above 0.
func Mod(a, b int) (int, api.Errno) {
	if b <= 0 {
		return 0, api.ErrArg
	}
	left := a % b
	if left < 0 {
		left += b
	}
	return left, api.OK
}

// size tells how far a is from 0; unsigned, since int has no such number for its least one.
func size(a int) uint64 {
	if a < 0 {
		return -uint64(a)
	}
	return uint64(a)
}
