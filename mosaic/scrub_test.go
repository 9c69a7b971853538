package mosaic

import (
	"math"
	"math/rand"
	"runtime"
	"slices"
	"testing"

	"mosaic/api"
)

// someDamaged tells disks of several kinds, on which pieces of values are bad.
func someDamaged(t *testing.T) map[string][]string {
	t.Helper()
	s, _ := filled(t, blankDisks(16, 8))
	disks := s.Disks()
	one := slices.Clone(disks)
	one[5] = turnBits(one[5], 8*api.BlockSize-16, math.MaxUint32) // two blocks: two pieces are bad
	many := lose(disks, 2, 7)
	many[0] = turnBits(many[0], 8*api.BlockSize*3+5, 1)
	many[13] = turnBits(many[13], 8*api.BlockSize*5-2, 0xffff)
	uneven := lose(disks, 12)
	anew := mustMount(t, uneven, math.MaxInt)
	mustPut(t, anew, 1, []byte("whole"))
	mustPut(t, anew, 6, []byte("whole too"))
	free := slices.Clone(disks)
	free[3] = turnBits(free[3], 8*len(free[3])-40, 77) // of a block in which no piece is
	free[4] = ""
	return map[string][]string{
		"a disk lost":        lose(disks, 0),
		"four disks lost":    lose(disks, 1, 6, 12, 13),
		"bits at a border":   one,
		"lost and turned":    many,
		"some put anew":      lose(anew.Disks(), 3, 8),
		"free blocks turned": free,
		"each block turned":  turnFour(disks),
	}
}

func bads(s *Store) []int {
	var list []int
	for _, h := range s.List() {
		list = append(list, h.Bad)
	}
	return list
}

// levelled tells the numbers as they are, sorted, when n times the greatest has become less by one.
func levelled(list []int, n int) []int {
	list = slices.Sorted(slices.Values(list))
	for range n {
		list[len(list)-1]--
		slices.Sort(list)
	}
	return list
}

func TestScrubMakesAsManyGood(t *testing.T) {
	for name, disks := range someDamaged(t) {
		bad := totalBad(mustMount(t, disks, 0))
		if bad == 0 {
			t.Fatalf("%s: nothing is bad", name)
		}
		for _, n := range []int{math.MinInt, -7, -1, 0, 1, 2, bad / 2, bad - 1, bad, bad + 1, 1000, math.MaxInt} {
			s := mustMount(t, disks, math.MaxInt)
			before, list := s.Disks(), bads(s)
			made := min(max(n, 0), bad)
			if left := s.Scrub(n); left != bad-made {
				t.Errorf("P10: %s: Scrub(%d) = %d, want %d", name, n, left, bad-made)
			}
			if changed := changedBlocks(before, s.Disks()); changed != made {
				t.Errorf("P10: %s: Scrub(%d) writes %d blocks, want %d", name, n, changed, made)
			}
			if now := slices.Sorted(slices.Values(bads(s))); !slices.Equal(now, levelled(list, made)) {
				t.Errorf("P10: %s: Scrub(%d): %v becomes %v", name, n, list, now)
			}
			if anew := mustMount(t, s.Disks(), 0); !slices.Equal(anew.List(), s.List()) {
				t.Errorf("P10: %s: Scrub(%d): %v, mounted anew %v", name, n, s.List(), anew.List())
			}
			if left := s.Scrub(0); left != bad-made {
				t.Errorf("P10: %s: Scrub(0) behind Scrub(%d) = %d, want %d", name, n, left, bad-made)
			}
		}
	}
}

// TestScrubTakesTheWorst: one by one.
func TestScrubTakesTheWorst(t *testing.T) {
	for name, disks := range someDamaged(t) {
		s := mustMount(t, disks, math.MaxInt)
		for bad := totalBad(s); bad > 0; bad-- {
			before, list, blocks := bads(s), s.List(), s.Disks()
			if left := s.Scrub(1); left != bad-1 {
				t.Fatalf("P10: %s: Scrub(1) = %d, want %d", name, left, bad-1)
			}
			fewer := 0
			for k, h := range s.List() {
				if h == list[k] {
					continue
				}
				fewer++
				if h.Id != list[k].Id || h.Size != list[k].Size || h.Bad != before[k]-1 || before[k] != slices.Max(before) {
					t.Errorf("P10: %s: %v becomes %v", name, list, s.List())
				}
			}
			if changed := changedBlocks(blocks, s.Disks()); fewer != 1 || changed != 1 {
				t.Errorf("P10: %s: Scrub(1) makes pieces of %d values good, by %d blocks", name, fewer, changed)
			}
		}
	}
}

// TestScrubInOneAndInMany: what is written where does not hang on how many calls it took.
func TestScrubInOneAndInMany(t *testing.T) {
	for name, disks := range someDamaged(t) {
		one, many := mustMount(t, disks, math.MaxInt), mustMount(t, disks, math.MaxInt)
		for many.Scrub(0) > 0 {
			many.Scrub(3)
		}
		one.Scrub(math.MaxInt)
		if !slices.Equal(one.Disks(), many.Disks()) || !slices.Equal(one.List(), many.List()) {
			t.Errorf("P10: %s: a Scrub in parts makes other disks", name)
		}
	}
}

func TestScrubOfWhatIsWhole(t *testing.T) {
	whole, values := filled(t, blankDisks(14, 6))
	for _, disks := range [][]string{whole.Disks(), blankDisks(14, 4), blankDisks(18, 64)} {
		for _, n := range []int{math.MinInt, -1, 0, 1, 14, math.MaxInt} {
			s := mustMount(t, disks, math.MaxInt)
			if left := s.Scrub(n); left != 0 || !slices.Equal(s.Disks(), disks) {
				t.Errorf("P10: nothing is bad: Scrub(%d) = %d, or writes", n, left)
			}
		}
	}
	mustHold(t, whole, values)
}

// TestScrubBetweenChanges: what is made good, put or deleted counts at once.
func TestScrubBetweenChanges(t *testing.T) {
	stored, values := filled(t, blankDisks(14, 9))
	s := mustMount(t, lose(stored.Disks(), 0, 1), math.MaxInt)
	bad := 2 * len(values)
	mustPut(t, s, 1, []byte("anew"))
	values[1] = []byte("anew")
	bad -= 2
	if left := s.Scrub(3); left != bad-3 {
		t.Errorf("P10: behind a Put: %d, want %d", left, bad-3)
	}
	bad -= 3
	gone := s.List()[slices.IndexFunc(s.List(), func(h api.Health) bool { return h.Bad == 2 })]
	mustDelete(t, s, gone.Id)
	delete(values, gone.Id)
	bad -= 2
	if left := s.Scrub(0); left != bad {
		t.Errorf("P10: behind a Delete: %d, want %d", left, bad)
	}
	if left := s.Scrub(bad); left != 0 {
		t.Errorf("P10: Scrub leaves %d", left)
	}
	mustHold(t, s, values)
	mustHold(t, mustMount(t, lose(s.Disks(), 2, 3, 4, 5), 0), values)
}

// TestDamageAndScrubInRounds: however often.
func TestDamageAndScrubInRounds(t *testing.T) {
	t.Parallel()
	r := rand.New(rand.NewSource(9))
	for _, count := range []int{14, 16, 18} {
		s, values := filled(t, blankDisks(count, 7))
		for range 120 {
			s = mustMount(t, damage(r, s.Disks()), math.MaxInt)
			mustHold(t, s, values)
			for range r.Intn(3) {
				c := someChange(r, 5)
				if wanted := after(values, []change{c}); len(wanted) <= 5 {
					c.do(s)
					values = wanted
				}
			}
			for part := r.Intn(3); part > 0; part-- {
				s.Scrub(r.Intn(12))
				mustHold(t, s, values)
			}
			if left := s.Scrub(s.Scrub(0)); left != 0 || totalBad(s) != 0 {
				t.Fatalf("P10: Scrub leaves %d: %v", left, s.List())
			}
			if anew := mustMount(t, s.Disks(), 0); totalBad(anew) != 0 {
				t.Fatalf("P10: mounted anew: %v", anew.List())
			}
		}
	}
}

// TestScrubWithLostWrites: it changes no value, and what was written of it stays good.
func TestScrubWithLostWrites(t *testing.T) {
	t.Parallel()
	_, values := filled(t, blankDisks(16, 8))
	for name, disks := range someDamaged(t) {
		if name == "some put anew" {
			values[1], values[6] = []byte("whole"), []byte("whole too")
		} else {
			_, values = filled(t, blankDisks(16, 8))
		}
		bad := totalBad(mustMount(t, disks, 0))
		ahead := written(t, disks, nil)
		if all := written(t, disks, []change{{}}); all != ahead+bad {
			t.Errorf("P10: %s: %d blocks are written for %d bad pieces", name, all-ahead, bad)
		}
		for lost := range bad + 1 {
			s := mustMount(t, disks, ahead+bad-lost)
			if left := s.Scrub(1000); left != 0 || totalBad(s) != 0 {
				t.Errorf("P7: %s: with lost writes Scrub = %d", name, left)
			}
			mustHold(t, s, values)
			anew := mustMount(t, s.Disks(), math.MaxInt)
			mustHold(t, anew, values)
			if left := anew.Scrub(0); left != lost {
				t.Errorf("P10: %s: %d writes are lost, %d pieces are bad", name, lost, left)
			}
			if left := anew.Scrub(lost); left != 0 {
				t.Errorf("P10: %s: Scrub(%d) = %d", name, lost, left)
			}
		}
	}
}

// TestScrubWritesTheSame: whatever the order of maps and goroutines.
func TestScrubWritesTheSame(t *testing.T) {
	stored, _ := filled(t, blankDisks(14, 64))
	disks := lose(stored.Disks(), 0, 4, 8, 12)
	first := mustMount(t, disks, math.MaxInt)
	want := first.Scrub(100)
	for k := range 20 {
		processors := runtime.GOMAXPROCS(1 + k%4)
		s := mustMount(t, disks, math.MaxInt)
		got := s.Scrub(100)
		runtime.GOMAXPROCS(processors)
		if got != want || !slices.Equal(s.Disks(), first.Disks()) {
			t.Fatal("P2: the same Scrub of the same disks writes otherwise")
		}
	}
}
