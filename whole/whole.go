// Package whole counts with 64 bits, and tells when they are too few.
package whole

import "quarterday/api"

// least is the one number whose opposite does not fit.
const least = -1 << 63

// Add tells the sum of a and b.
func Add(a, b int64) (int64, api.Errno) {
	sum := a + b
	// Only numbers of one side of 0 can be too great together, and then the sum comes out on the other side.
	if (a < 0) == (b < 0) && (sum < 0) != (a < 0) {
		return 0, api.ErrOver
	}
	return sum, api.OK
}

// Sub tells a less b.
func Sub(a, b int64) (int64, api.Errno) {
	rest := a - b
	// As in Add, but here it takes numbers of two sides.
	if (a < 0) != (b < 0) && (rest < 0) != (a < 0) {
		return 0, api.ErrOver
	}
	return rest, api.OK
}

// Mul tells the product of a and b.
func Mul(a, b int64) (int64, api.Errno) {
	if b == 0 {
		return 0, api.OK
	}
	// Dividing by -1 goes around itself, so it can't prove the product right.
	if b == -1 {
		return Neg(a)
	}
	product := a * b
	if product/b != a {
		return 0, api.ErrOver
	}
	return product, api.OK
}

// Neg tells the opposite of a.
func Neg(a int64) (int64, api.Errno) {
	if a == least {
		return 0, api.ErrOver
	}
	return -a, api.OK
}

// Div tells the greatest q that is not above a divided by b, and what is left over of a.
func Div(a, b int64) (q, r int64, e api.Errno) {
	if b == 0 {
		return 0, 0, api.ErrZero
	}
	if a == least && b == -1 {
		return 0, 0, api.ErrOver
	}
	q, r = a/b, a%b
	// Go's quotient is cut towards 0, so one that is below 0 and not whole is one too great.
	if r != 0 && (r < 0) != (b < 0) {
		q, r = q-1, r+b
	}
	return q, r, api.OK
}

// Gcd tells the greatest number that divides both a and b, and 0 of 0 and 0.
func Gcd(a, b int64) (int64, api.Errno) {
	for b != 0 {
		a, b = b, a%b
	}
	// The opposite is taken only at the end, for that of a or b itself may not fit where the answer does.
	if a < 0 {
		return Neg(a)
	}
	return a, api.OK
}
