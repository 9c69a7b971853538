package mosaic

import (
	"cmp"
	"slices"

	"mosaic/api"
	"mosaic/block"
	"mosaic/disk"
	"mosaic/piece"
)

// spare is how many slots stay free: a value that is put anew needs one, since the old one stands until it is there.
const spare = 2

// Store keeps values on disks.
//
// A slot is the blocks of one number on the first fourteen disks. A value has a slot to itself: its piece k lies on disk k.
type Store struct {
	disks  *disk.Disks
	values map[int]kept
	turn   uint64 // no piece on the disks has a higher one
}

// kept is what is known of a value.
type kept struct {
	label block.Label
	slot  int
	good  [api.Pieces]bool
}

// Mount makes a store of disks (P7).
func Mount(disks []string, writes int) (*Store, api.Errno) {
	mounted, ok := disk.New(disks, writes)
	if !ok {
		return nil, api.ErrDisk
	}
	s := &Store{disks: mounted, values: map[int]kept{}}
	for slot := range mounted.Blocks() {
		s.survey(slot)
	}
	s.sweep()
	return s, api.OK
}

// Put stores a value (P8).
func (s *Store) Put(id int, value []byte) api.Errno {
	pieces, e := piece.Cut(value)
	if e != api.OK || !isId(id) {
		return api.ErrArg
	}
	if s.isFullFor(id) {
		return api.ErrFull
	}
	older, ok := s.values[id]
	s.lay(id, len(value), pieces)
	if ok {
		s.blank(older.slot, older.good)
	}
	return api.OK
}

// Get tells a value (P8).
func (s *Store) Get(id int) ([]byte, api.Errno) {
	if !isId(id) {
		return nil, api.ErrArg
	}
	v, ok := s.values[id]
	if !ok {
		return nil, api.ErrNone
	}
	return piece.Join(s.goodPieces(v), v.label.Size)
}

// Delete takes a value away (P8).
func (s *Store) Delete(id int) api.Errno {
	if !isId(id) {
		return api.ErrArg
	}
	v, ok := s.values[id]
	if !ok {
		return api.ErrNone
	}
	delete(s.values, id)
	s.blank(v.slot, v.good)
	return api.OK
}

// List tells what is stored, and how it is (P8).
func (s *Store) List() []api.Health {
	list := make([]api.Health, 0, len(s.values))
	for id, v := range s.values {
		list = append(list, api.Health{Id: id, Size: v.label.Size, Bad: api.Pieces - v.goodCount()})
	}
	slices.SortFunc(list, func(a, b api.Health) int { return cmp.Compare(a.Id, b.Id) })
	return list
}

// Scrub makes bad pieces good again (P10).
func (s *Store) Scrub(n int) int {
	list := s.List()
	left := 0
	for _, h := range list {
		left += h.Bad
	}
	for ; n > 0 && left > 0; n-- {
		worst := mostBad(list)
		s.makeGood(worst.Id)
		worst.Bad--
		left--
	}
	return left
}

// Disks tells the disks' bytes (P7).
func (s *Store) Disks() []string { return s.disks.Texts() }

func isId(id int) bool {
	return id >= 1 && id <= api.MaxId
}

// mostBad tells the entry of a list that has the most bad pieces, the first of several.
func mostBad(list []api.Health) *api.Health {
	most := &list[0]
	for i := range list {
		if list[i].Bad > most.Bad {
			most = &list[i]
		}
	}
	return most
}

func (v kept) goodCount() int {
	count := 0
	for _, good := range v.good {
		if good {
			count++
		}
	}
	return count
}

// seal tells the block of a piece.
func (v kept) seal(k int, bytes []byte) block.Block {
	return block.Seal(block.Piece{Label: v.label, Number: k, Bytes: bytes})
}

// survey learns what value stands in a slot. If a store was left in the midst, pieces of others may stand there too; but
// of one value at most there are ten of fourteen, so that the order in which they are gone through does not matter.
func (s *Store) survey(slot int) {
	for label, v := range s.piecesIn(slot) {
		older, ok := s.values[label.Id]
		if v.goodCount() >= api.Data && (!ok || older.label.Turn < label.Turn) {
			s.values[label.Id] = s.agreeing(v)
		}
		s.turn = max(s.turn, label.Turn)
	}
}

// agreeing tells v with just those pieces as good that are as the first ten settle them: else the value would be another
// when one of these is lost.
func (s *Store) agreeing(v kept) kept {
	all, _ := piece.Mend(s.goodPieces(v))
	for k, bytes := range all {
		v.good[k] = s.disks.Holds(k, v.slot, v.seal(k, bytes))
	}
	return v
}

// piecesIn tells of which values there are pieces in a slot, and which.
func (s *Store) piecesIn(slot int) map[block.Label]kept {
	found := map[block.Label]kept{}
	for k := range api.Pieces {
		p, ok := s.disks.Read(k, slot)
		if !ok || p.Number != k {
			continue
		}
		v := found[p.Label]
		v.label, v.slot, v.good[k] = p.Label, slot, true
		found[p.Label] = v
	}
	return found
}

// isFullFor tells whether there is no room for a value of this id.
func (s *Store) isFullFor(id int) bool {
	others := len(s.values)
	if _, ok := s.values[id]; ok {
		others--
	}
	return others >= s.disks.Blocks()-spare
}

// sweep blanks each slot in which no value stands. What an earlier store left there would come to light when the value
// that hides it goes; and damage of a block that is blank can't make a piece of it, while damage upon damage can.
func (s *Store) sweep() {
	for slot, taken := range s.takenSlots() {
		if !taken {
			s.blank(slot, [api.Pieces]bool{})
		}
	}
}

// blank takes what is in a slot off the disks, the good pieces of a value behind all else: as long as ten of these are
// there the value is, as it was, so it goes as a whole, at one of these writes, and nothing is left then that may count again.
func (s *Store) blank(slot int, good [api.Pieces]bool) {
	for _, last := range []bool{false, true} {
		for k := range api.Pieces {
			if good[k] == last && !s.disks.Holds(k, slot, block.Block{}) {
				s.disks.Write(k, slot, block.Block{})
			}
		}
	}
}

// takenSlots tells of each slot whether a value stands in it.
func (s *Store) takenSlots() []bool {
	taken := make([]bool, s.disks.Blocks())
	for _, v := range s.values {
		taken[v.slot] = true
	}
	return taken
}

// lay writes a value's pieces into the first free slot. With the tenth of them it is there, in the place of an older one.
func (s *Store) lay(id int, size int, pieces [][]byte) {
	s.turn++
	v := kept{label: block.Label{Id: id, Size: size, Turn: s.turn}, slot: slices.Index(s.takenSlots(), false)}
	for k, bytes := range pieces {
		s.layPiece(&v, k, bytes)
	}
	s.values[id] = v
}

// layPiece writes a piece of a value into its slot.
func (s *Store) layPiece(v *kept, k int, bytes []byte) {
	s.disks.Write(k, v.slot, v.seal(k, bytes))
	v.good[k] = true
}

// makeGood lays the first bad piece of a value anew, as the good ones settle it.
func (s *Store) makeGood(id int) {
	v := s.values[id]
	all, _ := piece.Mend(s.goodPieces(v))
	k := slices.Index(v.good[:], false)
	s.layPiece(&v, k, all[k])
	s.values[id] = v
}

// goodPieces tells a value's pieces; those that are bad are nil.
func (s *Store) goodPieces(v kept) [][]byte {
	pieces := make([][]byte, api.Pieces)
	for k, good := range v.good {
		if !good {
			continue
		}
		p, _ := s.disks.Read(k, v.slot)
		pieces[k] = p.Bytes
	}
	return pieces
}
