package mosaic

import (
	"math"
	"testing"
)

func TestMulExamples(t *testing.T) {
	for _, c := range [][3]int{{2, 128, 29}, {3, 7, 9}, {255, 255, 226}, {256, 1, 0}, {0, 0, 0}, {0, 255, 0}, {255, 0, 0}, {255, 1, 255}, {1, 255, 255}} {
		if got := Mul(c[0], c[1]); got != c[2] {
			t.Errorf("P3: Mul(%d, %d) = %d, want %d", c[0], c[1], got, c[2])
		}
	}
}

func TestMulOfAllElements(t *testing.T) {
	f := newElements()
	for a := range 256 {
		for b := range 256 {
			if got, want := Mul(a, b), f.mul(a, b); got != want {
				t.Fatalf("P3: Mul(%d, %d) = %d, want %d", a, b, got, want)
			}
		}
	}
}

func TestMulOfWhatIsNoElement(t *testing.T) {
	// The lowest bytes of most of these are elements, which must not count.
	none := []int{-1, 256, 257, 258, 511, -255, -256, 1<<16 + 1, 1<<32 + 3, -1<<32 + 3, math.MaxInt32, math.MinInt32, math.MaxInt, math.MinInt, math.MinInt + 1}
	for _, a := range none {
		for b := range 256 {
			if Mul(a, b) != 0 || Mul(b, a) != 0 {
				t.Errorf("P3: Mul(%d, %d) = %d, Mul(%d, %d) = %d, want 0", a, b, Mul(a, b), b, a, Mul(b, a))
			}
		}
		for _, b := range none {
			if got := Mul(a, b); got != 0 {
				t.Errorf("P3: Mul(%d, %d) = %d, want 0", a, b, got)
			}
		}
	}
}
