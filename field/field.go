// Package field reckons in the field of 256 elements: bytes that stand for polynomials over the field of two.
package field

// reducer is x^8 as a polynomial of a degree below 8, modulo x^8 + x^4 + x^3 + x^2 + 1.
const reducer = 0x1d

// IsElement tells whether n is an element's number.
func IsElement(n int) bool {
	return n >= 0 && n <= 255
}

// Mul tells the product of two elements.
func Mul(a byte, b byte) byte {
	var product byte
	for b != 0 {
		if b&1 == 1 {
			product ^= a
		}
		a = timesX(a)
		b >>= 1
	}
	return product
}

func timesX(a byte) byte {
	if a&0x80 == 0 {
		return a << 1
	}
	return a<<1 ^ reducer
}

// Inverse tells the element whose product with a is 1; of 0, which has none, it tells 0.
func Inverse(a byte) byte {
	// The 255 elements but 0 are a group, so a^255 is 1 and a^254 the inverse; 254 is 2 + 4 + .. + 128.
	square := a
	inverse := byte(1)
	for range 7 {
		square = Mul(square, square)
		inverse = Mul(inverse, square)
	}
	return inverse
}
