package mosaic

import (
	"bytes"
	"math"
	"math/rand"
	"slices"
	"strings"
	"testing"

	"mosaic/api"
	"mosaic/block"
)

// turnBits turns bits of a disk, from the one at start on: the lowest bit of bits is that one.
func turnBits(disk string, start int, bits uint32) string {
	all := []byte(disk)
	for i := range 32 {
		if at := start + i; bits>>i&1 == 1 && at < 8*len(all) {
			all[at/8] ^= 1 << (at % 8)
		}
	}
	return string(all)
}

// lose loses these disks.
func lose(disks []string, numbers ...int) []string {
	lost := slices.Clone(disks)
	for _, d := range numbers {
		lost[d] = ""
	}
	return lost
}

// turnFour turns bits of four disks, in each block of theirs: what it turns once, it turns back the next time.
func turnFour(disks []string) []string {
	turned := slices.Clone(disks)
	for _, d := range []int{1, 4, 9, 13} {
		for at := 0; at < len(turned[d]); at += api.BlockSize {
			turned[d] = turnBits(turned[d], 8*at+100, 0x80000401)
		}
	}
	return turned
}

// damage loses up to four disks, or turns up to 32 bits of them.
func damage(r *rand.Rand, disks []string) []string {
	damaged := slices.Clone(disks)
	for _, d := range r.Perm(len(disks))[:r.Intn(5)] {
		damaged[d] = ""
		if r.Intn(3) > 0 {
			damaged[d] = turnBits(disks[d], r.Intn(8*len(disks[d])), r.Uint32())
		}
	}
	return damaged
}

// TestPiecesLieOnDisksOfTheirOwn: each value has one piece on each of fourteen disks.
func TestPiecesLieOnDisksOfTheirOwn(t *testing.T) {
	for count := api.MinDisks; count <= api.MaxDisks; count++ {
		s, values := filled(t, blankDisks(count, 7))
		pieces := map[int]int{}
		for d := range count {
			for _, h := range mustMount(t, lose(s.Disks(), d), 0).List() {
				if h.Bad > 1 {
					t.Errorf("P9: %d disks, one is lost: %v", count, h)
				}
				pieces[h.Id] += h.Bad
			}
		}
		for id := range values {
			if pieces[id] != api.Pieces {
				t.Errorf("P9: %d disks: value %d has %d pieces", count, id, pieces[id])
			}
		}
	}
}

// TestFourDisksLost: whichever four.
func TestFourDisksLost(t *testing.T) {
	t.Parallel()
	s, values := filled(t, blankDisks(14, 4))
	whole := s.Disks()
	for a := range 14 {
		for b := range a {
			for c := range b {
				for d := range c {
					mounted := mustMount(t, lose(whole, a, b, c, d), math.MaxInt)
					mustHold(t, mounted, values)
					if left := mounted.Scrub(100); left != 0 || !slices.Equal(mounted.Disks(), whole) {
						t.Fatalf("P10: %d, %d, %d and %d lost: Scrub leaves %d", a, b, c, d, left)
					}
				}
			}
		}
	}
}

// mustGoOn: a store does what one of whole disks does.
func mustGoOn(t *testing.T, s *Store, values map[int][]byte, c change) {
	t.Helper()
	_, there := values[c.id]
	wanted := after(values, []change{c})
	want := api.OK
	switch {
	case c.value == nil && !there:
		want = api.ErrNone
	case c.value != nil && len(wanted) > s.disks.Blocks()-2:
		want, wanted = api.ErrFull, values
	}
	got := s.Delete
	if c.value != nil {
		got = func(id int) api.Errno { return s.Put(id, c.value) }
	}
	if e := got(c.id); e != want {
		t.Fatalf("P9: on damaged disks: %d, want %d", e, want)
	}
	mustHold(t, s, wanted)
	mustHold(t, mustMount(t, s.Disks(), math.MaxInt), wanted)
}

func TestDamageOfFourDisks(t *testing.T) {
	t.Parallel()
	r := rand.New(rand.NewSource(6))
	for _, blocks := range []int{4, 7} {
		s, values := filled(t, blankDisks(15, blocks))
		for range 300 {
			mounted := mustMount(t, damage(r, s.Disks()), math.MaxInt)
			mustHold(t, mounted, values)
			mustGoOn(t, mounted, values, someChange(r, 5))
		}
	}
}

// TestDamageOfEachBit: wherever on a disk bits are turned, at the borders of blocks and where no piece is too.
func TestDamageOfEachBit(t *testing.T) {
	t.Parallel()
	s, values := filled(t, blankDisks(14, 4))
	whole := s.Disks()
	for start := range 8 * len(whole[0]) {
		disks := slices.Clone(whole)
		for k, bits := range []uint32{1, math.MaxUint32, 1<<31 | 1, 0xa5a5a5a5} {
			d := (start + 4*k) % 14
			disks[d] = turnBits(disks[d], start, bits)
		}
		mounted := mustMount(t, disks, math.MaxInt)
		mustHold(t, mounted, values)
		if bad := totalBad(mounted); bad > 8 {
			t.Fatalf("P8: bits turned from %d: %d pieces are bad", start, bad)
		}
		if left := mounted.Scrub(8); left != 0 || !slices.Equal(mounted.Disks(), whole) {
			t.Fatalf("P10: bits turned from %d: Scrub leaves %d", start, left)
		}
	}
}

// TestBitsTurnedBack: a value that is gone stays so when damage of its pieces is turned back, wherever the Delete was left.
func TestBitsTurnedBack(t *testing.T) {
	s := mustMount(t, blankDisks(14, 4), math.MaxInt)
	mustPut(t, s, 1, []byte("first"))
	mustPut(t, s, 1, []byte("second"))
	mustPut(t, s, 2, []byte("other"))
	damaged := turnFour(s.Disks())
	for writes := range 40 {
		left := mustMount(t, damaged, writes)
		mustDelete(t, left, 1)
		again := mustMount(t, left.Disks(), 0)
		_, e := again.Get(1)
		back := mustMount(t, turnFour(again.Disks()), 0)
		if got, f := back.Get(1); e == api.ErrNone && f != e {
			t.Errorf("P9: Delete left after %d writes: what is gone is back: %q, %d", writes, got, f)
		}
		if got, e := back.Get(2); !bytes.Equal(got, []byte("other")) || e != api.OK {
			t.Errorf("P9: Delete left after %d writes: the other value: %q, %d", writes, got, e)
		}
	}
}

// TestBitsTurnedAgain: the same bits are turned again and again, a Scrub, Puts and Deletes being done between.
func TestBitsTurnedAgain(t *testing.T) {
	t.Parallel()
	for start := 0; start < 8*api.BlockSize; start += 7 {
		s := mustMount(t, blankDisks(14, 5), math.MaxInt)
		values := map[int][]byte{2: []byte("two"), 3: someBytes(333, 3)}
		mustPut(t, s, 2, values[2])
		mustPut(t, s, 3, values[3])
		for round := range 16 {
			disks := s.Disks()
			for k := range 4 { // of each disk one run, in a block that changes with the rounds
				d := (k + 4*(round/5)) % 14
				disks[d] = turnBits(disks[d], start+8*api.BlockSize*(round%5), 0xc0000003)
			}
			s = mustMount(t, disks, math.MaxInt)
			mustHold(t, s, values)
			c := change{id: 1 + round%3, value: someBytes(round*20, uint32(start))}
			if round%4 == 3 {
				c.value = nil
			}
			if round%2 == 0 {
				c.do(s)
				values = after(values, []change{c})
			}
			if left := s.Scrub(100); left != 0 {
				t.Fatalf("P10: round %d: Scrub leaves %d", round, left)
			}
			mustHold(t, mustMount(t, s.Disks(), 0), values)
		}
	}
}

// turnInto turns bits of up to four disks, 32 at most of each, so that they are more like others; none, if they are these.
func turnInto(disks []string, others []string) []string {
	turned, count := slices.Clone(disks), 0
	for d := range disks {
		if disks[d] == others[d] || count == 4 {
			continue
		}
		at := 0
		for disks[d][at] == others[d][at] {
			at++
		}
		end := min(at+4, len(disks[d]))
		turned[d] = disks[d][:at] + others[d][at:end] + disks[d][end:]
		count++
	}
	return turned
}

// TestDamageUponDamage: damage that step by step would bring back an earlier state of the disks does not, since each store
// that bears it makes good what it finds.
func TestDamageUponDamage(t *testing.T) {
	s := mustMount(t, blankDisks(14, 4), math.MaxInt)
	var states [][]string
	mustPut(t, s, 1, []byte("early"))
	states = append(states, s.Disks())
	mustPut(t, s, 1, []byte("later"))
	mustPut(t, s, 2, []byte("other"))
	states = append(states, s.Disks())
	mustDelete(t, s, 1)
	for _, last := range []map[int][]byte{{2: []byte("other")}, {}} {
		if len(last) == 0 {
			mustDelete(t, s, 2)
		}
		for k, state := range append(states, manyBytes(14, 4)) {
			now := mustMount(t, s.Disks(), math.MaxInt)
			for round := range 100 {
				now = mustMount(t, turnInto(now.Disks(), state), math.MaxInt)
				now.Scrub(now.Scrub(0))
				if other := otherThan(now, last); other != "" {
					t.Fatalf("P9: %d left, state %d, round %d: %s: %v", len(last), k, round, other, now.List())
				}
			}
		}
	}
}

// TestDamageAloneUponDamage: the same without a Scrub, where no value is damaged.
func TestDamageAloneUponDamage(t *testing.T) {
	s := mustMount(t, blankDisks(14, 4), math.MaxInt)
	mustPut(t, s, 1, []byte("gone"))
	gone := s.Disks()
	mustDelete(t, s, 1)
	disks := s.Disks()
	for round := range 400 {
		disks = mustMount(t, turnInto(disks, gone), math.MaxInt).Disks()
		if list := mustMount(t, disks, 0).List(); len(list) != 0 {
			t.Fatalf("P9: round %d: what is gone is back: %v", round, list)
		}
	}
}

// sealed tells disks with one value, of which the bytes of some pieces are others than the first ten settle.
func sealed(t *testing.T, others ...int) ([]string, []byte) {
	t.Helper()
	value := someBytes(55, 1)
	pieces, e := Cut(value)
	if e != api.OK {
		t.Fatal(e)
	}
	disks := blankDisks(14, 4)
	for k, bytes := range pieces {
		if slices.Contains(others, k) {
			bytes[2] ^= 5
		}
		b := block.Seal(block.Piece{Label: block.Label{Id: 3, Size: 55, Turn: math.MaxUint64}, Number: k, Bytes: bytes})
		disks[k] = strings.Repeat("\x00", api.BlockSize) + string(b[:]) + strings.Repeat("\x00", 2*api.BlockSize)
	}
	return disks, value
}

// TestPiecesThatDoNotFit: a piece that is whole, but not as the first ten settle it, is bad.
func TestPiecesThatDoNotFit(t *testing.T) {
	for _, others := range [][]int{{}, {13}, {10}, {11, 12}, {10, 11, 12, 13}} {
		disks, value := sealed(t, others...)
		values := map[int][]byte{3: value}
		s := mustMount(t, disks, math.MaxInt)
		mustHold(t, s, values)
		if bad := totalBad(s); bad != len(others) {
			t.Errorf("P8: %v do not fit: %d are bad", others, bad)
		}
		for writes := range 40 {
			left := mustMount(t, disks, writes)
			if writes%2 == 0 {
				mustDelete(t, left, 3)
			} else {
				mustPut(t, left, 3, []byte("anew"))
			}
			again := mustMount(t, left.Disks(), 0)
			whichHolds(t, again, []map[int][]byte{values, after(values, []change{{id: 3, value: []byte("anew")}}), {}})
		}
		if left := s.Scrub(4); left != 0 {
			t.Errorf("P10: %v do not fit: Scrub leaves %d", others, left)
		}
		for k := range 14 {
			mustHold(t, mustMount(t, lose(s.Disks(), k, (k+1)%14, (k+5)%14, (k+8)%14), 0), values)
		}
	}
}
