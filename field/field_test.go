package field

import (
	"math"
	"testing"
)

// longProduct multiplies first and divides afterwards, which Mul does not.
func longProduct(a byte, b byte) byte {
	product := 0
	for bit := range 8 {
		if b>>bit&1 == 1 {
			product ^= int(a) << bit
		}
	}
	for degree := 14; degree >= 8; degree-- {
		if product>>degree&1 == 1 {
			product ^= 0b1_0001_1101 << (degree - 8)
		}
	}
	return byte(product)
}

func TestMulIsTheProductOfThePolynomials(t *testing.T) {
	for a := range 256 {
		for b := range 256 {
			if got, want := Mul(byte(a), byte(b)), longProduct(byte(a), byte(b)); got != want {
				t.Fatalf("P3: Mul(%d, %d) = %d, want %d", a, b, got, want)
			}
		}
	}
}

func TestInverse(t *testing.T) {
	for a := 1; a < 256; a++ {
		if product := longProduct(byte(a), Inverse(byte(a))); product != 1 {
			t.Errorf("%d times Inverse(%d) = %d, want 1", a, a, product)
		}
	}
	if Inverse(0) != 0 {
		t.Errorf("Inverse(0) = %d, want 0", Inverse(0))
	}
}

func TestIsElement(t *testing.T) {
	for n := range 256 {
		if !IsElement(n) {
			t.Errorf("P3: %d is an element", n)
		}
	}
	for _, n := range []int{math.MinInt, -256, -1, 256, 257, 511, 1 << 16, math.MaxInt} {
		if IsElement(n) {
			t.Errorf("P3: %d is no element", n)
		}
	}
}
