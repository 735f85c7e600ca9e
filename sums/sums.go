// Package sums is layer 1: see shared/doc/01-sums.md.
package sums

import (
	"math/bits"

	"moneyer/api"
)

// Add is the sum.
func Add(a, b uint64) (uint64, api.Errno) {
	sum, carry := bits.Add64(a, b, 0)
	if carry != 0 {
		return 0, api.ErrOver
	}
	return sum, api.OK
}

// Sub is the difference.
func Sub(a, b uint64) (uint64, api.Errno) {
	if b > a {
		return 0, api.ErrLess
	}
	return a - b, api.OK
}

// Mul is the product.
func Mul(a, b uint64) (uint64, api.Errno) {
	high, low := bits.Mul64(a, b)
	if high != 0 {
		return 0, api.ErrOver
	}
	return low, api.OK
}

// Total is the sum of all.
func Total(list ...uint64) (uint64, api.Errno) {
	total := uint64(0)
	for _, x := range list {
		sum, err := Add(total, x)
		if err != api.OK {
			return 0, err
		}
		total = sum
	}
	return total, api.OK
}

// Part is n of d parts of a, rounded down, or up.
func Part(a, n, d uint64, up bool) (uint64, api.Errno) {
	if d == 0 {
		return 0, api.ErrZero
	}
	high, low := bits.Mul64(a, n)
	// Div64 panics where the quotient doesn't fit.
	if high >= d {
		return 0, api.ErrOver
	}
	part, left := bits.Div64(high, low, d)
	if up && left > 0 {
		return Add(part, 1)
	}
	return part, api.OK
}

// Covers tells whether a of n parts is at least b of d parts, exactly: b times d is at most a times n.
func Covers(a, n, b, d uint64) bool {
	haveHigh, haveLow := bits.Mul64(a, n)
	needHigh, needLow := bits.Mul64(b, d)
	if haveHigh != needHigh {
		return haveHigh > needHigh
	}
	return haveLow >= needLow
}

// Share parts a sum among some by how much each weighs: each has its part, rounded down; what is left goes, one each, to the first ones that weigh something.
func Share(sum uint64, weights []uint64) ([]uint64, api.Errno) {
	all, err := Total(weights...)
	if err != api.OK {
		return nil, err
	}
	if all == 0 {
		return nil, api.ErrZero
	}
	shares := make([]uint64, len(weights))
	left := sum
	for i, w := range weights {
		// No weight is above all of them, so a part always fits, and never takes more than is left.
		shares[i], _ = Part(sum, w, all, false)
		left -= shares[i]
	}
	handOut(shares, weights, left)
	return shares, api.OK
}

// handOut gives one each to the first shares that weigh something, as far as what is left goes.
func handOut(shares, weights []uint64, left uint64) {
	for i, w := range weights {
		if left == 0 {
			return
		}
		if w != 0 {
			shares[i]++
			left--
		}
	}
}
