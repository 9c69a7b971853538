package block

import (
	"bytes"
	"hash/crc32"
	"math"
	"math/rand"
	"testing"

	"mosaic/api"
	"mosaic/piece"
)

// opens tells what is in a block, and whether Open does not panic.
func opens(b Block) (p Piece, ok bool) {
	defer func() { recover() }()
	return Open(b), true
}

func somePiece(r *rand.Rand, size int) Piece {
	p := Piece{
		Label:  Label{Id: 1 + r.Intn(api.MaxId), Size: size, Turn: r.Uint64()},
		Number: r.Intn(api.Pieces),
		Bytes:  make([]byte, piece.RowLength(size)),
	}
	r.Read(p.Bytes)
	return p
}

func samePiece(a Piece, b Piece) bool {
	return a.Label == b.Label && a.Number == b.Number && bytes.Equal(a.Bytes, b.Bytes)
}

func TestOpenTellsWhatWasSealed(t *testing.T) {
	r := rand.New(rand.NewSource(1))
	for size := range api.MaxValue + 1 {
		want := somePiece(r, size)
		got, ok := opens(Seal(want))
		if !ok || !samePiece(got, want) || got.Bytes == nil {
			t.Errorf("P8: a piece of %d bytes: %v, %v, want %v", size, got, ok, want)
		}
	}
	for _, id := range []int{1, 255, 256, api.MaxId} {
		for _, turn := range []uint64{0, 1, 1 << 32, math.MaxUint64} {
			for number := range api.Pieces {
				want := Piece{Label: Label{Id: id, Size: 3, Turn: turn}, Number: number, Bytes: []byte{7}}
				if got, ok := opens(Seal(want)); !ok || !samePiece(got, want) {
					t.Errorf("P8: %v, %v, want %v", got, ok, want)
				}
			}
		}
	}
}

func TestOpenPanicsAtWhatIsNone(t *testing.T) {
	bad := map[string]Block{
		"blank":        {},
		"id 0":         Seal(Piece{Label: Label{Id: 0, Size: 3, Turn: 1}, Bytes: []byte{1}}),
		"id too high":  Seal(Piece{Label: Label{Id: api.MaxId + 1, Size: 3, Turn: 1}, Bytes: []byte{1}}),
		"size":         Seal(Piece{Label: Label{Id: 1, Size: api.MaxValue + 1, Turn: 1}, Bytes: []byte{1}}),
		"greatest":     Seal(Piece{Label: Label{Id: 1, Size: math.MaxUint16, Turn: 1}, Bytes: []byte{1}}),
		"number":       Seal(Piece{Label: Label{Id: 1, Size: 3, Turn: 1}, Number: api.Pieces, Bytes: []byte{1}}),
		"number again": Seal(Piece{Label: Label{Id: 1, Size: 3, Turn: 1}, Number: 255, Bytes: []byte{1}}),
	}
	tail := Seal(Piece{Label: Label{Id: 1, Size: 3, Turn: 1}, Bytes: []byte{1}})
	tail[bytesAt+1] = 5
	putNumber(tail[restAt:], uint64(rest(tail[:restAt])))
	bad["bytes behind the piece"] = tail
	for _, b := range []byte{1, 'x', 0xff} {
		bad["all "+string(b)] = Block(bytes.Repeat([]byte{b}, api.BlockSize))
	}
	for name, b := range bad {
		if p, ok := opens(b); ok {
			t.Errorf("P9: %s: a piece: %v", name, p)
		}
	}
}

// turn turns bits of a block, from the one at start: the lowest bit of bits is that one.
func turn(b Block, start int, bits uint32) Block {
	for i := range 32 {
		if at := start + i; bits>>i&1 == 1 && at >= 0 && at < 8*api.BlockSize {
			b[at/8] ^= 1 << (at % 8)
		}
	}
	return b
}

// TestDamageShows: what of 32 bits that follow one another lies in a block, some of them turned, leaves no piece in it.
func TestDamageShows(t *testing.T) {
	r := rand.New(rand.NewSource(2))
	for _, whole := range []Block{{}, Seal(somePiece(r, 0)), Seal(somePiece(r, 1)), Seal(somePiece(r, 237)), Seal(somePiece(r, 400))} {
		for start := -31; start < 8*api.BlockSize; start++ {
			for _, bits := range []uint32{1, 1 << 31, 3, 1<<31 | 1, math.MaxUint32, divisor, r.Uint32(), r.Uint32() | 1, r.Uint32() | 1<<31 | 1} {
				damaged := turn(whole, start, bits)
				if damaged == whole {
					continue
				}
				if p, ok := opens(damaged); ok {
					t.Fatalf("P9: bits %x turned from %d: a piece: %v", bits, start, p)
				}
				if turn(damaged, start, bits) != whole {
					t.Fatal("turned back, it is another block")
				}
			}
		}
	}
}

func TestBytesAreNewMemory(t *testing.T) {
	want := Piece{Label: Label{Id: 5, Size: 30, Turn: 9}, Number: 2, Bytes: []byte{1, 2, 3}}
	b := Seal(want)
	want.Bytes[0] = 9
	first, _ := opens(b)
	second, _ := opens(b)
	clear(first.Bytes[:cap(first.Bytes)])
	if third, _ := opens(b); !bytes.Equal(second.Bytes, []byte{1, 2, 3}) || !samePiece(second, third) {
		t.Errorf("P2: %v, %v", second, third)
	}
}

func TestRestIsThatOfTheLibrary(t *testing.T) {
	r := rand.New(rand.NewSource(3))
	for n := range 100 {
		list := make([]byte, n)
		r.Read(list)
		if got, want := rest(list), ^crc32.Update(math.MaxUint32, crc32.IEEETable, list); got != want {
			t.Errorf("P9: rest of %v: %x, want %x", list, got, want)
		}
	}
}
