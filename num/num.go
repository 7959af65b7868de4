// Package num is layer 1: counting without going round. See shared/doc/01-num.md.
package num

import (
	"bailiff/api"
)

// Count is n as a count: from 0 to MaxCount.
func Count(n int64) int64 {
	if n < 0 {
		return 0
	}
	if n > api.MaxCount {
		return api.MaxCount
	}
	return n
}

// Add is the sum of all of l as counts, MaxCount at most.
func Add(l ...int64) int64 {
	var sum int64
	for _, n := range l {
		sum = addTwo(sum, Count(n))
	}
	return sum
}

// addTwo adds two counts. It asks for the room that is left before it adds,
// for MaxCount twice is one more than an int64 holds.
func addTwo(a, b int64) int64 {
	if b > api.MaxCount-a {
		return api.MaxCount
	}
	return a + b
}

// Sub is a less b as counts, 0 at least.
func Sub(a, b int64) int64 {
	// Two counts are never so far apart that their difference goes round.
	return Count(Count(a) - Count(b))
}

// Mul is the product of a and b as counts, MaxCount at most.
func Mul(a, b int64) int64 {
	a, b = Count(a), Count(b)
	if a == 0 {
		return 0
	}
	// The product itself may go round, so the bound is divided instead.
	if b > api.MaxCount/a {
		return api.MaxCount
	}
	return a * b
}

// Up is a by b as counts, rounded up; 0, if b is 0.
func Up(a, b int64) int64 {
	a, b = Count(a), Count(b)
	if b == 0 {
		return 0
	}
	whole := a / b
	if a%b > 0 {
		whole++
	}
	return whole
}
