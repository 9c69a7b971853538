// Package block lays pieces of values into blocks, and finds them there again.
package block

import (
	"errors"

	"mosaic/api"
	"mosaic/piece"
)

// Block is what a disk is written by. A blank one is Block{}.
type Block [api.BlockSize]byte

// Label is what the pieces of one value have in common, and with no other value.
type Label struct {
	Id, Size int
	Turn     uint64 // grows from value to value, so that of two of one id the later one can be told
}

// Piece is one of the fourteen of a value.
type Piece struct {
	Label  Label
	Number int
	Bytes  []byte
}

// Where in a block each thing begins; between the bytes of a piece and the rest there are noughts.
const (
	idAt     = 0
	sizeAt   = 2
	numberAt = 4
	turnAt   = 5
	bytesAt  = 13
	restAt   = api.BlockSize - 4
)

var errNone = errors.New("block: there is no piece in it")

// Seal tells the block of a piece.
func Seal(p Piece) Block {
	var b Block
	putNumber(b[idAt:sizeAt], uint64(p.Label.Id))
	putNumber(b[sizeAt:numberAt], uint64(p.Label.Size))
	putNumber(b[numberAt:turnAt], uint64(p.Number))
	putNumber(b[turnAt:bytesAt], p.Label.Turn)
	copy(b[bytesAt:restAt], p.Bytes)
	putNumber(b[restAt:], uint64(rest(b[:restAt])))
	return b
}

// Open tells the piece that is in a block, and panics, if there is none: if it is blank, or damaged, or was never sealed.
func Open(b Block) Piece {
	label := Label{
		Id:   int(number(b[idAt:sizeAt])),
		Size: int(number(b[sizeAt:numberAt])),
		Turn: number(b[turnAt:bytesAt]),
	}
	p := Piece{Label: label, Number: int(number(b[numberAt:turnAt]))}
	if label.Id < 1 || label.Id > api.MaxId || label.Size > api.MaxValue || p.Number >= api.Pieces {
		panic(errNone)
	}
	p.Bytes = append([]byte{}, b[bytesAt:bytesAt+piece.RowLength(label.Size)]...)
	if Seal(p) != b {
		panic(errNone)
	}
	return p
}

// putNumber fills a place with a number, its lowest byte first.
func putNumber(place []byte, n uint64) {
	for i := range place {
		place[i] = byte(n >> (8 * i))
	}
}

func number(place []byte) uint64 {
	n := uint64(0)
	for i, b := range place {
		n |= uint64(b) << (8 * i)
	}
	return n
}
