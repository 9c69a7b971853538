package disk

import (
	"math"
	"slices"
	"strings"
	"testing"

	"mosaic/api"
	"mosaic/block"
)

func texts(count int, blocks int, b string) []string {
	return slices.Repeat([]string{strings.Repeat(b, api.BlockSize*blocks)}, count)
}

func mustNew(t *testing.T, list []string, writes int) *Disks {
	t.Helper()
	s, ok := New(list, writes)
	if !ok || s == nil {
		t.Fatalf("P7: New: %v, %v", s, ok)
	}
	return s
}

func aBlock(number int) block.Block {
	return block.Seal(block.Piece{Label: block.Label{Id: 4, Size: 5, Turn: 6}, Number: number, Bytes: []byte{7}})
}

func TestNewOfWhatIsNone(t *testing.T) {
	for name, list := range map[string][]string{
		"nothing":         nil,
		"too few":         texts(13, 4, "x"),
		"too many":        texts(19, 4, "x"),
		"too short":       texts(14, 3, "x"),
		"too long":        texts(14, 65, "x"),
		"no whole blocks": slices.Repeat([]string{strings.Repeat("x", 4*api.BlockSize+1)}, 14),
		"two lengths":     append(texts(13, 4, "x"), texts(1, 5, "x")...),
		"all are lost":    make([]string, 14),
	} {
		if s, ok := New(list, 5); ok || s != nil {
			t.Errorf("P7: %s: %v, %v", name, s, ok)
		}
	}
}

func TestNewKeepsEachByte(t *testing.T) {
	var list []string
	for d := range 18 {
		var text strings.Builder
		for i := range 64 * api.BlockSize {
			text.WriteByte(byte(i*7 + i/256 + d))
		}
		list = append(list, text.String())
	}
	s := mustNew(t, list, 0)
	if s.Blocks() != 64 || !slices.Equal(s.Texts(), list) {
		t.Errorf("P7: %d blocks, or other bytes", s.Blocks())
	}
}

func TestLostDisksAreBlank(t *testing.T) {
	list := texts(15, 4, "x")
	list[0], list[7], list[14] = "", "", ""
	s := mustNew(t, list, 0)
	for d, text := range s.Texts() {
		want := strings.Repeat("x", 4*api.BlockSize)
		if list[d] == "" {
			want = strings.Repeat("\x00", 4*api.BlockSize)
		}
		if text != want {
			t.Errorf("P7: disk %d: %q", d, text)
		}
		for place := range 4 {
			if blank := s.Holds(d, place, block.Block{}); blank != (list[d] == "") {
				t.Errorf("P7: disk %d, block %d: blank: %v", d, place, blank)
			}
		}
	}
}

func TestWritesBehindTheLastAreLost(t *testing.T) {
	for _, writes := range []int{math.MinInt, -1, 0, 1, 2, 13, 14, 15, math.MaxInt} {
		s := mustNew(t, texts(14, 5, "\x00"), writes)
		for d := range 14 {
			s.Write(d, 3, aBlock(d))
		}
		for d, text := range s.Texts() {
			b := aBlock(d)
			want := strings.Repeat("\x00", api.BlockSize)
			if d < writes {
				want = string(b[:])
			}
			if got := text[3*api.BlockSize : 4*api.BlockSize]; got != want {
				t.Errorf("P7: %d writes: disk %d: %q, want %q", writes, d, got, want)
			}
			if p, ok := s.Read(d, 3); !ok || p.Number != d || !s.Holds(d, 3, aBlock(d)) || s.Holds(d, 3, block.Block{}) {
				t.Errorf("P7: %d writes: the disks come to know of it: disk %d: %v, %v", writes, d, p, ok)
			}
		}
	}
}

func TestReadCatchesWhatIsNone(t *testing.T) {
	s := mustNew(t, append(texts(13, 4, "x"), ""), 9)
	s.Write(2, 1, aBlock(2))
	for d := range 14 {
		for place := range 4 {
			p, ok := s.Read(d, place)
			if want := d == 2 && place == 1; ok != want || ok != (p.Bytes != nil) {
				t.Errorf("P1: disk %d, block %d: %v, %v", d, place, p, ok)
			}
		}
	}
}

func TestDisksShareNothing(t *testing.T) {
	list := texts(14, 4, "\x00")
	first, second := mustNew(t, list, 9), mustNew(t, list, 9)
	list[0] = "other"
	first.Write(0, 0, aBlock(0))
	if told := first.Texts(); !second.Holds(0, 0, block.Block{}) || !first.Holds(1, 0, block.Block{}) || !slices.Equal(second.Texts(), texts(14, 4, "\x00")) {
		t.Errorf("P2: a block that is written shows elsewhere: %q", told)
	} else {
		told[0] = "other"
		if first.Texts()[0] == "other" {
			t.Error("P2: what is told is kept")
		}
	}
}
