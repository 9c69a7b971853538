package mosaic

import (
	"maps"
	"math"
	"math/rand"
	"slices"
	"testing"

	"mosaic/api"
)

// change is a Put, or, without a value, a Delete, or, without an id, a Scrub.
type change struct {
	id    int
	value []byte
}

func (c change) do(s *Store) {
	switch {
	case c.id == 0:
		s.Scrub(math.MaxInt)
	case c.value == nil:
		s.Delete(c.id)
	default:
		s.Put(c.id, c.value)
	}
}

func doAll(s *Store, changes []change) *Store {
	for _, c := range changes {
		c.do(s)
	}
	return s
}

// after tells the values as they are when these changes are done.
func after(values map[int][]byte, changes []change) map[int][]byte {
	values = maps.Clone(values)
	for _, c := range changes {
		if c.value == nil {
			delete(values, c.id)
		} else {
			values[c.id] = c.value
		}
	}
	return values
}

// written tells how many blocks a store of these disks writes: by Mount, and for these changes.
func written(t *testing.T, disks []string, changes []change) int {
	t.Helper()
	all := doAll(mustMount(t, disks, math.MaxInt), changes).Disks()
	low, high := 0, 1<<12
	for low < high {
		middle := (low + high) / 2
		if slices.Equal(doAll(mustMount(t, disks, middle), changes).Disks(), all) {
			high = middle
		} else {
			low = middle + 1
		}
	}
	return low
}

func someChange(r *rand.Rand, ids int) change {
	c := change{id: 1 + r.Intn(ids)}
	if r.Intn(3) > 0 {
		c.value = make([]byte, r.Intn(api.MaxValue+1))
		r.Read(c.value)
	}
	return c
}

// mayHold tells what values there may be when a store whose calls end at these numbers of writes is left: those behind
// the last call whose writes were all written, and, if the first lost write was of a call, those behind that one.
func mayHold(values map[int][]byte, changes []change, ends []int, writes int) []map[int][]byte {
	done := 0
	for done < len(changes) && ends[done+1] <= writes {
		done++
	}
	may := []map[int][]byte{after(values, changes[:done])}
	if done < len(changes) && ends[done] <= writes {
		may = append(may, after(values, changes[:done+1]))
	}
	return may
}

// whichHolds tells which of these values a store holds.
func whichHolds(t *testing.T, s *Store, may []map[int][]byte) map[int][]byte {
	t.Helper()
	for _, values := range may {
		if otherThan(s, values) == "" {
			return values
		}
	}
	t.Fatalf("P11: %v, want one of %d others", s.List(), len(may))
	return nil
}

// mustBearAgain: behind a Scrub without lost writes nothing is bad, and damage is borne.
func mustBearAgain(t *testing.T, r *rand.Rand, disks []string, values map[int][]byte) {
	t.Helper()
	s := mustMount(t, disks, math.MaxInt)
	mustHold(t, s, values)
	if left := s.Scrub(math.MaxInt); left != 0 || totalBad(s) != 0 {
		t.Fatalf("P10: Scrub leaves %d: %v", left, s.List())
	}
	for range 2 {
		mustHold(t, mustMount(t, damage(r, s.Disks()), 0), values)
	}
	s = mustMount(t, s.Disks(), math.MaxInt)
	if bad := totalBad(s); bad != 0 {
		t.Fatalf("P10: %d are bad when mounted anew", bad)
	}
	for id := range values {
		mustDelete(t, s, id)
	}
	for k, text := range s.Disks()[:api.Pieces] {
		if text != blankDisks(1, len(text)/api.BlockSize)[0] {
			t.Fatalf("P11: all values are gone, but disk %d is not blank", k)
		}
	}
}

// TestLeftAtEachWrite: whichever write is the first that is lost, of Mount, Put, Delete or Scrub, each value is there as a
// whole, and what comes behind that is as if it had not been.
func TestLeftAtEachWrite(t *testing.T) {
	t.Parallel()
	r := rand.New(rand.NewSource(8))
	stored, values := filled(t, blankDisks(14, 5))
	changes := []change{{id: 1, value: []byte("anew")}, {id: 1}, {}, {id: 7, value: someBytes(400, 7)}, {id: 6, value: []byte{}}}
	for name, disks := range map[string][]string{
		"whole":            stored.Disks(),
		"a disk lost":      lose(stored.Disks(), 3),
		"four disks lost":  lose(stored.Disks(), 0, 5, 11, 13),
		"bits turned":      turnFour(stored.Disks()),
		"left in a Put":    doAll(mustMount(t, stored.Disks(), 11), changes[:1]).Disks(),
		"left behind that": doAll(mustMount(t, stored.Disks(), 16), changes[:1]).Disks(),
		"left in a Delete": doAll(mustMount(t, stored.Disks(), 5), changes[1:2]).Disks(),
	} {
		start := map[int][]byte{}
		for _, h := range mustMount(t, disks, 0).List() {
			start[h.Id] = values[h.Id]
		}
		if name == "left in a Put" || name == "left behind that" {
			start[1] = []byte("anew")
		}
		var ends []int
		for k := range len(changes) + 1 {
			ends = append(ends, written(t, disks, changes[:k]))
		}
		for writes := range ends[len(changes)] + 2 {
			s := doAll(mustMount(t, disks, writes), changes)
			mustHold(t, s, after(start, changes))
			left := mustMount(t, s.Disks(), 0)
			held := whichHolds(t, left, mayHold(start, changes, ends, writes))
			for range r.Intn(3) {
				left = mustMount(t, left.Disks(), r.Intn(9))
				left.Scrub(r.Intn(9))
				mustHold(t, left, held)
			}
			mustBearAgain(t, r, left.Disks(), held)
		}
	}
}

// TestLeftAgainAndAgain: the same, by chance, each store left being the next one's start.
func TestLeftAgainAndAgain(t *testing.T) {
	t.Parallel()
	r := rand.New(rand.NewSource(5))
	for range 8 {
		disks, values := blankDisks(14+r.Intn(5), 6), map[int][]byte{}
		for range 25 {
			changes := []change{someChange(r, 4), someChange(r, 4), someChange(r, 4)}
			changes[r.Intn(3)].id *= r.Intn(2)
			for k, c := range changes {
				if c.id == 0 {
					changes[k].value = nil
				}
			}
			var ends []int
			for k := range len(changes) + 1 {
				ends = append(ends, written(t, disks, changes[:k]))
			}
			writes := r.Intn(ends[3] + 1)
			s := doAll(mustMount(t, disks, writes), changes)
			mustHold(t, s, after(values, changes))
			disks = s.Disks()
			values = whichHolds(t, mustMount(t, disks, r.Intn(20)), mayHold(values, changes, ends, writes))
			mustBearAgain(t, r, disks, values)
		}
	}
}

// TestPutIsDoneWithItsPieces: of two values of one id that both stand on the disks, the later one counts.
func TestPutIsDoneWithItsPieces(t *testing.T) {
	disks := blankDisks(14, 4)
	for k := range 6 {
		s := mustMount(t, disks, math.MaxInt)
		mustPut(t, s, 1, []byte{byte(k)})
		mustPut(t, s, 2, []byte{byte(k)})
		if k%2 == 1 { // so that the later one stands before and behind the other
			mustPut(t, s, 1, []byte{byte(k), 1})
		}
		disks = s.Disks()
		for writes := api.Data; writes <= api.Pieces; writes++ {
			s = mustMount(t, disks, writes)
			mustPut(t, s, 1, []byte("later"))
			left := mustMount(t, s.Disks(), 0)
			mustHold(t, left, map[int][]byte{1: []byte("later"), 2: {byte(k)}})
			if bad := totalBad(left); bad != api.Pieces-writes {
				t.Errorf("P8: %d pieces laid, %d are bad", writes, bad)
			}
		}
	}
}

// TestNothingElseStaysOnTheDisks: whatever an earlier store left, each value's own blocks are all that is not blank.
func TestNothingElseStaysOnTheDisks(t *testing.T) {
	r := rand.New(rand.NewSource(7))
	stored, _ := filled(t, blankDisks(14, 8))
	for range 60 {
		s := mustMount(t, stored.Disks(), r.Intn(60))
		for range 4 {
			someChange(r, 6).do(s)
		}
		disks := s.Disks()
		disks[r.Intn(14)] = string(someBytes(8*api.BlockSize, r.Uint32()))
		s = mustMount(t, disks, math.MaxInt)
		for range 2 {
			s.Scrub(math.MaxInt)
			if full := changedBlocks(s.Disks(), blankDisks(14, 8)); full != 14*len(s.List()) {
				t.Fatalf("P8: %d blocks are not blank, of %d values", full, len(s.List()))
			}
			for id := 1; id <= 6; id++ {
				s.Put(id, []byte("anew"))
				s.Delete(id)
			}
		}
	}
}
