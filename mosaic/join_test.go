package mosaic

import (
	"bytes"
	"math"
	"math/bits"
	"testing"

	"mosaic/api"
)

func mustJoin(t *testing.T, pieces [][]byte, n int) []byte {
	t.Helper()
	value, e := Join(pieces, n)
	if e != api.OK || value == nil || len(value) != n {
		t.Fatalf("P6: Join(.., %d): %v, %d", n, value, e)
	}
	return value
}

func TestJoinOfAnyTenPiecesIsTheValue(t *testing.T) {
	value := someBytes(47, 21)
	whole := mustCut(t, value)
	for chosen := range 1 << api.Pieces {
		if bits.OnesCount(uint(chosen)) != api.Data {
			continue
		}
		if got := mustJoin(t, only(whole, chosen), len(value)); !bytes.Equal(got, value) {
			t.Fatalf("P6: Join of the pieces %014b: %v, want %v", chosen, got, value)
		}
	}
}

func TestJoinOfAllSizes(t *testing.T) {
	for n := range api.MaxValue + 1 {
		value := someBytes(n, uint32(n))
		whole := mustCut(t, value)
		for _, chosen := range []int{1<<14 - 1, 1<<10 - 1, 1<<14 - 1<<4, 0b01101111110110} {
			if got := mustJoin(t, only(whole, chosen), n); !bytes.Equal(got, value) {
				t.Fatalf("P6: Join of the pieces %014b of %d bytes: %v, want %v", chosen, n, got, value)
			}
		}
	}
}

func TestJoinOfEachN(t *testing.T) {
	for _, length := range []int{0, 1, 2, 3, 40, 41, 400} {
		whole := mustMend(t, only(freePieces(api.Pieces, length, 6), 1<<14-1<<4))
		rows := bytes.Join(whole[:api.Data], nil)
		some := only(whole, 1<<14-1<<4)
		ns := []int{0, 1, length - 1, length, length + 1, 5 * length, 9 * length, 10*length - 1, 10 * length}
		if length < 4 {
			for n := range 10*length + 1 {
				ns = append(ns, n)
			}
		}
		for _, n := range ns {
			if n < 0 || n > 10*length {
				continue
			}
			if got := mustJoin(t, some, n); !bytes.Equal(got, rows[:n]) {
				t.Errorf("P6: Join of pieces of %d bytes, %d: %v, want %v", length, n, got, rows[:n])
			}
		}
		for _, n := range []int{-1, -length, -10 * length, 10*length + 1, 10*length + 9, 14*length + 1, math.MaxInt, math.MinInt, math.MinInt + 1, math.MaxInt32 + 1, 1<<32 + 1} {
			if n == 0 {
				continue
			}
			if got, e := Join(some, n); got != nil || e != api.ErrArg {
				t.Errorf("P1, P6: Join of pieces of %d bytes, %d: %v, %d, want nil, ErrArg", length, n, got, e)
			}
		}
	}
}

func TestJoinTellsNoughtsBehindTheValue(t *testing.T) {
	value := someBytes(23, 8)
	want := append(bytes.Clone(value), make([]byte, 7)...)
	if got := mustJoin(t, mustCut(t, value), 30); !bytes.Equal(got, want) {
		t.Errorf("P6: Join of 23 bytes, 30: %v, want %v", got, want)
	}
}

func TestJoinTheFirstTenCount(t *testing.T) {
	free := freePieces(api.Pieces, 3, 9)
	for _, chosen := range []int{1<<14 - 1, 1<<14 - 2, 1<<14 - 8, 1<<13 - 4, 1<<14 - 1 - 1<<6 - 1<<9} {
		some := only(free, chosen)
		want := bytes.Join(mustMend(t, some)[:api.Data], nil)
		if got := mustJoin(t, some, 30); !bytes.Equal(got, want) {
			t.Errorf("P6: Join of the pieces %014b: %v, want %v", chosen, got, want)
		}
	}
	if got := mustJoin(t, free, 30); !bytes.Equal(got, bytes.Join(free[:api.Data], nil)) {
		t.Errorf("P6: Join of all pieces: %v, want the first ten", got)
	}
}

func TestJoinErrorsOfMendComeFirst(t *testing.T) {
	for name, c := range badPieces() {
		for _, n := range []int{0, 1, 20, 21, -1, 4001, math.MaxInt, math.MinInt} {
			if got, e := Join(c.pieces, n); got != nil || e != c.want {
				t.Errorf("P1, P6: Join of %s, %d: %v, %d, want nil, %d", name, n, got, e, c.want)
			}
		}
	}
}

func TestJoinLeavesWhatIsHandedIn(t *testing.T) {
	for _, chosen := range []int{1<<14 - 1, 1<<14 - 1<<4, 1<<10 - 1, 0b01101111110110, 0b00001111111110} {
		for _, n := range []int{-1, 0, 1, 17, 70, 71} {
			room, laid := inOneRoom(only(freePieces(api.Pieces, 7, 4), chosen))
			roomBefore, before := bytes.Clone(room), copyPieces(laid)
			got, _ := Join(laid, n)
			if !bytes.Equal(room, roomBefore) || !samePieces(laid, before) {
				t.Errorf("P2: Join of the pieces %014b, %d, wrote into what was handed in", chosen, n)
			}
			kept := bytes.Clone(got)
			for i := range room {
				room[i] ^= 0xff
			}
			if !bytes.Equal(got, kept) {
				t.Errorf("P2: Join of the pieces %014b, %d: the answer changes with what was handed in", chosen, n)
			}
		}
	}
}

func TestJoinAnswerIsTheCallers(t *testing.T) {
	some := only(freePieces(api.Pieces, 7, 4), 0b01101111110110)
	before := copyPieces(some)
	for _, n := range []int{0, 1, 7, 33, 70} {
		first, second := mustJoin(t, some, n), mustJoin(t, some, n)
		want := bytes.Clone(second)
		room := first[:cap(first)]
		for i := range room {
			room[i] ^= 0xff
		}
		if !samePieces(some, before) || !bytes.Equal(second, want) || !bytes.Equal(mustJoin(t, some, n), want) {
			t.Errorf("P2: Join, %d: what is written into the answer shows elsewhere", n)
		}
	}
}
