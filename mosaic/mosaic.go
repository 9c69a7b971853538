// Package mosaic: values in fourteen pieces on as many disks, of which any ten are enough: see DOC.md.
package mosaic

import (
	"mosaic/api"
	"mosaic/field"
	"mosaic/piece"
)

// Mul tells a product of the field (P3).
func Mul(a int, b int) int {
	if !field.IsElement(a) || !field.IsElement(b) {
		return 0
	}
	return int(field.Mul(byte(a), byte(b)))
}

// Cut tells a value's pieces (P4).
func Cut(value []byte) ([][]byte, api.Errno) { return piece.Cut(value) }

// Mend tells all pieces, of ten or more (P5).
func Mend(pieces [][]byte) ([][]byte, api.Errno) { return piece.Mend(pieces) }

// Join tells a value of its pieces (P6).
func Join(pieces [][]byte, n int) ([]byte, api.Errno) { return piece.Join(pieces, n) }
