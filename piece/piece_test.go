package piece

import (
	"bytes"
	"math/bits"
	"testing"

	"mosaic/api"
)

func TestRowLengthIsATenthRoundedUp(t *testing.T) {
	for _, c := range [][2]int{{0, 0}, {1, 1}, {9, 1}, {10, 1}, {11, 2}, {20, 2}, {21, 3}, {391, 40}, {399, 40}, {400, 40}} {
		if got := RowLength(c[0]); got != c[1] {
			t.Errorf("P4: RowLength(%d) = %d, want %d", c[0], got, c[1])
		}
	}
}

func TestAnyTenPiecesSettleTheOthers(t *testing.T) {
	whole, e := Cut([]byte("a value of a length that ten does not divide"))
	if e != api.OK {
		t.Fatalf("P4: Cut: %d", e)
	}
	for chosen := range 1 << api.Pieces {
		if bits.OnesCount(uint(chosen)) != api.Data {
			continue
		}
		all := make([][]byte, api.Pieces)
		var known [api.Data]int
		count := 0
		for k := range all {
			if chosen>>k&1 == 1 {
				all[k] = whole[k]
				known[count] = k
				count++
			}
		}
		fillLacking(all, known, len(whole[0]))
		for k := range all {
			if !bytes.Equal(all[k], whole[k]) {
				t.Fatalf("P4: of the pieces %v, piece %d is %v, want %v", known, k, all[k], whole[k])
			}
		}
	}
}
