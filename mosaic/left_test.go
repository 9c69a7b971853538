package mosaic

import (
	"bytes"
	"maps"
	"math"
	"math/rand"
	"slices"
	"testing"

	"mosaic/api"
)

// change is a Put, or, without a value, a Delete.
type change struct {
	id    int
	value []byte
}

func (c change) do(s *Store) {
	if c.value == nil {
		s.Delete(c.id)
	} else {
		s.Put(c.id, c.value)
	}
}

// after tells the values as they are when these changes are done.
func after(values map[int][]byte, changes []change) map[int][]byte {
	values = maps.Clone(values)
	for _, c := range changes {
		if c.value == nil {
			delete(values, c.id)
		} else {
			values[c.id] = c.value
		}
	}
	return values
}

// written tells how many blocks a store of these disks writes for these changes.
func written(t *testing.T, disks []string, changes []change) int {
	t.Helper()
	do := func(writes int) []string {
		s := mustMount(t, disks, writes)
		for _, c := range changes {
			c.do(s)
		}
		return s.Disks()
	}
	all, low, high := do(math.MaxInt), 0, 1<<12
	for low < high {
		middle := (low + high) / 2
		if slices.Equal(do(middle), all) {
			high = middle
		} else {
			low = middle + 1
		}
	}
	return low
}

func someChange(r *rand.Rand, ids int) change {
	c := change{id: 1 + r.Intn(ids)}
	if r.Intn(3) > 0 {
		c.value = make([]byte, r.Intn(api.MaxValue+1))
		r.Read(c.value)
	}
	return c
}

// TestLeftInTheMidst: whichever write is the first that is lost, each value is there as a whole, and what comes behind
// that is as if it had not been; however often a store is left.
func TestLeftInTheMidst(t *testing.T) {
	r := rand.New(rand.NewSource(5))
	for range 6 {
		disks, values := blankDisks(14+r.Intn(5), 6), map[int][]byte{}
		for range 25 {
			changes := []change{someChange(r, 4), someChange(r, 4), someChange(r, 4)}
			var ends []int
			for k := range len(changes) + 1 {
				ends = append(ends, written(t, disks, changes[:k]))
			}
			writes := r.Intn(ends[3] + 1)
			s := mustMount(t, disks, writes)
			for _, c := range changes {
				c.do(s)
			}
			mustHold(t, s, after(values, changes))
			done := 0
			for done < 3 && ends[done+1] <= writes {
				done++
			}
			left := mustMount(t, s.Disks(), math.MaxInt)
			either := after(values, changes[:done])
			if otherThan(left, either) != "" && done < 3 {
				either = after(values, changes[:done+1])
			}
			if other := otherThan(left, either); other != "" {
				t.Fatalf("P11: left after %d writes of %v: %s", writes, ends, other)
			}
			disks, values = s.Disks(), either
		}
	}
}

// TestPutIsDoneWithItsPieces: of two values of one id that both stand on the disks, the later one counts.
func TestPutIsDoneWithItsPieces(t *testing.T) {
	disks := blankDisks(14, 4)
	for k := range 6 {
		s := mustMount(t, disks, math.MaxInt)
		mustPut(t, s, 1, []byte{byte(k)})
		mustPut(t, s, 2, []byte{byte(k)})
		if k%2 == 1 { // so that the later one stands before and behind the other
			mustPut(t, s, 1, []byte{byte(k), 1})
		}
		disks = s.Disks()
		for writes := api.Data; writes <= api.Pieces; writes++ {
			s = mustMount(t, disks, writes)
			mustPut(t, s, 1, []byte("later"))
			left := mustMount(t, s.Disks(), 0)
			mustHold(t, left, map[int][]byte{1: []byte("later"), 2: {byte(k)}})
			if bad := totalBad(left); bad != api.Pieces-writes {
				t.Errorf("P8: %d pieces laid, %d are bad", writes, bad)
			}
		}
	}
}

// TestNothingElseStaysOnTheDisks: whatever an earlier store left, each value's own blocks are all that is not blank.
func TestNothingElseStaysOnTheDisks(t *testing.T) {
	r := rand.New(rand.NewSource(7))
	stored, _ := filled(t, blankDisks(14, 8))
	for range 60 {
		s := mustMount(t, stored.Disks(), r.Intn(60))
		for range 4 {
			someChange(r, 6).do(s)
		}
		disks := s.Disks()
		disks[r.Intn(14)] = string(someBytes(8*api.BlockSize, r.Uint32()))
		s = mustMount(t, disks, math.MaxInt)
		for id := 1; id <= 6; id++ {
			s.Put(id, []byte("anew"))
			s.Delete(id)
		}
		for _, h := range s.List() {
			mustPut(t, s, h.Id, []byte("anew"))
		}
		if full := changedBlocks(s.Disks(), blankDisks(14, 8)); full != 14*len(s.List()) {
			t.Fatalf("P8: %d blocks are not blank, of %d values", full, len(s.List()))
		}
	}
}

// turnBits turns bits of a disk, from the one at start on: the lowest bit of bits is that one.
func turnBits(disk string, start int, bits uint32) string {
	all := []byte(disk)
	for i := range 32 {
		if at := start + i; bits>>i&1 == 1 && at < 8*len(all) {
			all[at/8] ^= 1 << (at % 8)
		}
	}
	return string(all)
}

// damage loses up to four disks, or turns up to 32 bits of them.
func damage(r *rand.Rand, disks []string) []string {
	damaged := slices.Clone(disks)
	for _, d := range r.Perm(len(disks))[:r.Intn(5)] {
		damaged[d] = ""
		if r.Intn(3) > 0 {
			damaged[d] = turnBits(disks[d], r.Intn(8*len(disks[d])), r.Uint32())
		}
	}
	return damaged
}

func TestDamageOfFourDisks(t *testing.T) {
	r := rand.New(rand.NewSource(6))
	s, values := filled(t, blankDisks(15, 7))
	for range 300 {
		mounted := mustMount(t, damage(r, s.Disks()), math.MaxInt)
		mustHold(t, mounted, values)
		c := someChange(r, 5)
		wanted := after(values, []change{c})
		if len(wanted) > 5 {
			continue
		}
		c.do(mounted)
		mustHold(t, mounted, wanted)
		mustHold(t, mustMount(t, mounted.Disks(), 0), wanted)
	}
}

// TestDamageOfEachBit: wherever on a disk bits are turned, at the borders of blocks too.
func TestDamageOfEachBit(t *testing.T) {
	s, values := filled(t, blankDisks(14, 4))
	whole := s.Disks()
	for start := range 8 * len(whole[0]) {
		disks := slices.Clone(whole)
		for k, bits := range []uint32{1, math.MaxUint32, 1<<31 | 1, 0xa5a5a5a5} {
			d := (start + 4*k) % 14
			disks[d] = turnBits(disks[d], start, bits)
		}
		mounted := mustMount(t, disks, 0)
		mustHold(t, mounted, values)
		if bad := totalBad(mounted); bad > 8 {
			t.Fatalf("P8: bits turned from %d: %d pieces are bad", start, bad)
		}
	}
}

// TestBitsTurnedBack: a value that is gone stays so when damage of its pieces is turned back, wherever the Delete was left.
func TestBitsTurnedBack(t *testing.T) {
	s := mustMount(t, blankDisks(14, 4), math.MaxInt)
	mustPut(t, s, 1, []byte("first"))
	mustPut(t, s, 1, []byte("second"))
	mustPut(t, s, 2, []byte("other"))
	turnFour := func(disks []string) []string {
		turned := slices.Clone(disks)
		for _, d := range []int{1, 4, 9, 13} {
			for block := range 4 {
				turned[d] = turnBits(turned[d], 8*api.BlockSize*block+100, 0x80000401)
			}
		}
		return turned
	}
	damaged := turnFour(s.Disks())
	for writes := range 30 {
		left := mustMount(t, damaged, writes)
		mustDelete(t, left, 1)
		again := mustMount(t, left.Disks(), 0)
		_, e := again.Get(1)
		back := mustMount(t, turnFour(again.Disks()), 0)
		if got, f := back.Get(1); e == api.ErrNone && f != e {
			t.Errorf("P9: Delete left after %d writes: what is gone is back: %q, %d", writes, got, f)
		}
		if got, e := back.Get(2); !bytes.Equal(got, []byte("other")) || e != api.OK {
			t.Errorf("P9: Delete left after %d writes: the other value: %q, %d", writes, got, e)
		}
	}
}
