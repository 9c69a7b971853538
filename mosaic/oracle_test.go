package mosaic

import "mosaic/api"

// elements is the field reckoned otherwise than the program does it: by tables of powers and logarithms of x.
type elements struct {
	power     [510]int
	logarithm [256]int
}

func newElements() *elements {
	f := &elements{}
	p := 1
	for n := range 255 {
		f.power[n], f.power[n+255] = p, p
		f.logarithm[p] = n
		p *= 2
		if p > 255 {
			p ^= 1<<8 | 1<<4 | 1<<3 | 1<<2 | 1
		}
	}
	return f
}

func (f *elements) mul(a int, b int) int {
	if a == 0 || b == 0 {
		return 0
	}
	return f.power[f.logarithm[a]+f.logarithm[b]]
}

func (f *elements) div(a int, b int) int {
	if a == 0 {
		return 0
	}
	return f.power[f.logarithm[a]+255-f.logarithm[b]]
}

// value tells a polynomial's value at x, the coefficient of degree 0 first.
func (f *elements) value(polynomial []int, x int) int {
	sum := 0
	for k := len(polynomial) - 1; k >= 0; k-- {
		sum = f.mul(sum, x) ^ polynomial[k]
	}
	return sum
}

// fits tells whether a polynomial of a degree below 10 has these values at 0, 1 and so on: whether all of
// Newton's divided differences from the tenth on are 0.
func (f *elements) fits(values []int) bool {
	differences := append([]int(nil), values...)
	for order := 1; order < len(values); order++ {
		for k := len(values) - 1; k >= order; k-- {
			differences[k] = f.div(differences[k]^differences[k-1], k^(k-order))
		}
	}
	for _, d := range differences[api.Data:] {
		if d != 0 {
			return false
		}
	}
	return true
}

// someBytes tells n bytes without a plain pattern, the same ones each time.
func someBytes(n int, seed uint32) []byte {
	list := make([]byte, n)
	for i := range list {
		seed = seed*1664525 + 1013904223
		list[i] = byte(seed >> 24)
	}
	return list
}
