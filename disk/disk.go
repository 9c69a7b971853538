// Package disk keeps the blocks of a store's disks, and loses writes.
package disk

import (
	"mosaic/api"
	"mosaic/block"
)

// Disks are a store's disks, twice: as it believes them to be, all that it wrote being written, and as they are.
type Disks struct {
	believed [][]block.Block
	actual   [][]block.Block
	left     int // how many writes are still to happen; all behind them are lost
}

// New makes disks of texts, and tells whether they are some that a store can lie on.
func New(texts []string, writes int) (*Disks, bool) {
	length, same := oneLength(texts)
	blocks := length / api.BlockSize
	switch {
	case len(texts) < api.MinDisks || len(texts) > api.MaxDisks:
		return nil, false
	case !same || length%api.BlockSize != 0 || blocks < api.MinBlocks || blocks > api.MaxBlocks:
		return nil, false
	}
	return &Disks{believed: allBlocks(texts, blocks), actual: allBlocks(texts, blocks), left: writes}, true
}

// Blocks tells how many blocks each disk has.
func (s *Disks) Blocks() int {
	return len(s.believed[0])
}

// Read tells the piece that is in a block of a disk, and whether there is one.
func (s *Disks) Read(disk int, place int) (found block.Piece, ok bool) {
	// A block that is none panics: then both results stay at nothing, and the other blocks of the disk can be read.
	defer func() { recover() }()
	return block.Open(s.believed[disk][place]), true
}

// Holds tells whether a block of a disk is this one.
func (s *Disks) Holds(disk int, place int, b block.Block) bool {
	return s.believed[disk][place] == b
}

// Write writes a block of a disk; whether that is lost can't be told from what Read and Holds tell.
func (s *Disks) Write(disk int, place int, b block.Block) {
	s.believed[disk][place] = b
	if s.left > 0 {
		s.left--
		s.actual[disk][place] = b
	}
}

// Texts tells the disks' bytes, as they are.
func (s *Disks) Texts() []string {
	texts := make([]string, len(s.actual))
	for d, blocks := range s.actual {
		all := make([]byte, 0, len(blocks)*api.BlockSize)
		for _, b := range blocks {
			all = append(all, b[:]...)
		}
		texts[d] = string(all)
	}
	return texts
}

// oneLength tells the length of the texts that have bytes (0, if none has), and whether they all have it.
func oneLength(texts []string) (int, bool) {
	length := 0
	for _, text := range texts {
		if text == "" {
			continue
		}
		if length != 0 && len(text) != length {
			return 0, false
		}
		length = len(text)
	}
	return length, true
}

// allBlocks cuts each text into blocks; those of a text without bytes are blank.
func allBlocks(texts []string, count int) [][]block.Block {
	disks := make([][]block.Block, len(texts))
	for d, text := range texts {
		disks[d] = make([]block.Block, count)
		for place := range disks[d] {
			start := min(place*api.BlockSize, len(text))
			copy(disks[d][place][:], text[start:])
		}
	}
	return disks
}
