// Package num is layer 1: numbers that don't go beyond what there are. See shared/doc/01-num.md.
package num

import "snaffle/api"

// Add two numbers.
func Add(a, b int64) (int64, api.Errno) {
	sum := a + b
	// Beyond the last number it wraps round, and only there does b lead the wrong way.
	if (sum < a) != (b < 0) {
		return 0, api.ErrOver
	}
	return sum, api.OK
}

// Sub one number from another.
func Sub(a, b int64) (int64, api.Errno) {
	// Not by way of Add(a, -b): the least number has no negative.
	less := a - b
	if (less > a) != (b < 0) {
		return 0, api.ErrOver
	}
	return less, api.OK
}

// Mul two numbers.
func Mul(a, b int64) (int64, api.Errno) {
	if a == 0 || b == 0 {
		return 0, api.OK
	}
	product := a * b
	// Both ways, since the least number divided by -1 wraps round to itself.
	if product/a != b || product/b != a {
		return 0, api.ErrOver
	}
	return product, api.OK
}

// Total of numbers, added in order.
func Total(l ...int64) (int64, api.Errno) {
	var sum int64
	for _, n := range l {
		var err api.Errno
		sum, err = Add(sum, n)
		if err != api.OK {
			return 0, err
		}
	}
	return sum, api.OK
}

// Max of two numbers.
func Max(a, b int64) int64 {
	return max(a, b)
}
