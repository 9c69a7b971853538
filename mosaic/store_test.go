package mosaic

import (
	"bytes"
	"maps"
	"math"
	"slices"
	"strings"
	"testing"

	"mosaic/api"
)

func blankDisks(count int, blocks int) []string {
	return slices.Repeat([]string{strings.Repeat("\x00", api.BlockSize*blocks)}, count)
}

func mustMount(t *testing.T, disks []string, writes int) *Store {
	t.Helper()
	s, e := Mount(disks, writes)
	if s == nil || e != api.OK {
		t.Fatalf("P7: Mount: %v, %d", s != nil, e)
	}
	return s
}

func mustPut(t *testing.T, s *Store, id int, value []byte) {
	t.Helper()
	if e := s.Put(id, value); e != api.OK {
		t.Fatalf("P8: Put(%d, %d bytes) = %d", id, len(value), e)
	}
}

func mustDelete(t *testing.T, s *Store, id int) {
	t.Helper()
	if e := s.Delete(id); e != api.OK {
		t.Fatalf("P8: Delete(%d) = %d", id, e)
	}
}

// otherThan tells where the store tells something else than these values ("", if nowhere).
func otherThan(s *Store, want map[int][]byte) string {
	var ids []int
	for _, h := range s.List() {
		ids = append(ids, h.Id)
		if h.Size != len(want[h.Id]) {
			return "the size in List"
		}
	}
	if !slices.Equal(ids, slices.Sorted(maps.Keys(want))) {
		return "the ids in List"
	}
	for id, value := range want {
		if got, e := s.Get(id); e != api.OK || got == nil || !bytes.Equal(got, value) {
			return "a value"
		}
	}
	for _, id := range []int{1, 2, 3, 4, 5, 6, 7, 8, 9, 10, 11, 12, api.MaxId} {
		if got, e := s.Get(id); want[id] == nil && (e != api.ErrNone || got != nil) {
			return "a value that is none"
		}
	}
	return ""
}

func mustHold(t *testing.T, s *Store, want map[int][]byte) {
	t.Helper()
	if other := otherThan(s, want); other != "" {
		t.Fatalf("P8: %s: %v, want %d values", other, s.List(), len(want))
	}
}

func totalBad(s *Store) int {
	total := 0
	for _, h := range s.List() {
		total += h.Bad
	}
	return total
}

// changedBlocks tells how many blocks of the disks differ.
func changedBlocks(a []string, b []string) int {
	count := 0
	for d := range a {
		for at := 0; at < len(a[d]); at += api.BlockSize {
			if a[d][at:at+api.BlockSize] != b[d][at:at+api.BlockSize] {
				count++
			}
		}
	}
	return count
}

// filled tells a store with as many values as must have room, and the values.
func filled(t *testing.T, disks []string) (*Store, map[int][]byte) {
	t.Helper()
	s := mustMount(t, disks, math.MaxInt)
	values := map[int][]byte{}
	for k := range len(disks[0])/api.BlockSize - 2 {
		id := 1 + 5*k%11 + 11*(k/11)
		values[id] = someBytes(397*k%(api.MaxValue+1), uint32(k))
		mustPut(t, s, id, values[id])
	}
	mustHold(t, s, values)
	return s, values
}

func TestValuesOfAllSizes(t *testing.T) {
	s := mustMount(t, blankDisks(15, 4), math.MaxInt)
	for size := range api.MaxValue + 1 {
		want := map[int][]byte{7: someBytes(size, uint32(size))}
		mustPut(t, s, 7, want[7])
		mustHold(t, s, want)
		mustHold(t, mustMount(t, s.Disks(), 0), want)
	}
}

func TestValueOfNoBytes(t *testing.T) {
	for _, value := range [][]byte{nil, {}, make([]byte, 0, 9)} {
		s := mustMount(t, blankDisks(14, 4), math.MaxInt)
		mustPut(t, s, 1, value)
		for range 2 {
			if got, e := s.Get(1); got == nil || len(got) != 0 || e != api.OK {
				t.Errorf("P8: Get = %#v, %d", got, e)
			}
			if list := s.List(); !slices.Equal(list, []api.Health{{Id: 1}}) {
				t.Errorf("P8: List = %v", list)
			}
			s = mustMount(t, s.Disks(), 0)
		}
	}
}

func TestPutErrors(t *testing.T) {
	full, values := filled(t, blankDisks(14, 6))
	for _, s := range []*Store{full, mustMount(t, blankDisks(14, 4), math.MaxInt)} {
		before, list := s.Disks(), s.List()
		for _, c := range []struct{ id, size int }{
			{0, 1}, {-1, 1}, {api.MaxId + 1, 1}, {math.MinInt, 0}, {math.MaxInt, 0}, {1 << 16, 1}, {1<<32 + 1, 1}, {1<<16 + 1, 1},
			{1, 401}, {1, 402}, {api.MaxId, 1 << 20}, {0, 401}, {api.MaxId + 1, 401}, {9000, 401},
		} {
			if e := s.Put(c.id, make([]byte, c.size)); e != api.ErrArg {
				t.Errorf("P1, P8: Put(%d, %d bytes) = %d, want ErrArg", c.id, c.size, e)
			}
		}
		if !slices.Equal(s.Disks(), before) || !slices.Equal(s.List(), list) {
			t.Error("P1: a Put with an error changes something")
		}
	}
	mustHold(t, full, values)
	s := mustMount(t, blankDisks(14, 4), math.MaxInt)
	want := map[int][]byte{1: make([]byte, api.MaxValue), api.MaxId: make([]byte, api.MaxValue)}
	for id, value := range want {
		mustPut(t, s, id, value)
	}
	mustHold(t, s, want)
}

func TestGetAndDeleteErrors(t *testing.T) {
	s, values := filled(t, blankDisks(16, 7))
	before, list := s.Disks(), s.List()
	check := func(id int, want api.Errno) {
		if got, e := s.Get(id); got != nil || e != want {
			t.Errorf("P1, P8: Get(%d) = %v, %d, want nil, %d", id, got, e, want)
		}
		if e := s.Delete(id); e != want {
			t.Errorf("P1, P8: Delete(%d) = %d, want %d", id, e, want)
		}
	}
	for _, id := range []int{0, -1, api.MaxId + 1, math.MinInt, math.MaxInt, 1<<16 + 1, 1<<32 + 1, -9999} {
		check(id, api.ErrArg)
	}
	for _, id := range []int{2, 100, api.MaxId - 1, api.MaxId} {
		check(id, api.ErrNone)
	}
	if !slices.Equal(s.Disks(), before) || !slices.Equal(s.List(), list) {
		t.Error("P1: a Get or Delete with an error changes something")
	}
	mustHold(t, s, values)
}

// TestRoom: as many values as blocks, less two, have room, and each of them can be put anew, again and again.
func TestRoom(t *testing.T) {
	for _, blocks := range []int{4, 5, 6, 17, 63, 64} {
		for count := api.MinDisks; count <= api.MaxDisks; count += 2 {
			s, values := filled(t, blankDisks(count, blocks))
			if len(values) != blocks-2 {
				t.Fatalf("P8: %d values in %d blocks", len(values), blocks)
			}
			for round := range 3 {
				for id := range values {
					values[id] = someBytes(id+round, uint32(round))
					mustPut(t, s, id, values[id])
				}
				mustHold(t, s, values)
				s = mustMount(t, s.Disks(), math.MaxInt)
				mustHold(t, s, values)
			}
			before := s.Disks()
			if e := s.Put(5000, []byte("more")); e != api.ErrFull {
				t.Errorf("P8: a value too many in %d blocks: %d, want ErrFull", blocks, e)
			}
			if !slices.Equal(s.Disks(), before) {
				t.Error("P1: a Put with an error changes the disks")
			}
			mustHold(t, s, values)
			mustDelete(t, s, 1)
			mustPut(t, s, 5000, []byte("more"))
			delete(values, 1)
			values[5000] = []byte("more")
			mustHold(t, s, values)
		}
	}
}

func TestPutInThePlaceOfAnother(t *testing.T) {
	s := mustMount(t, blankDisks(14, 5), math.MaxInt)
	want := map[int][]byte{3: []byte("three")}
	mustPut(t, s, 3, want[3])
	for k, size := range []int{0, 400, 1, 33, 33, 0, 399} {
		want[4] = someBytes(size, uint32(k))
		mustPut(t, s, 4, want[4])
		mustHold(t, s, want)
		mustHold(t, mustMount(t, s.Disks(), 0), want)
	}
	// What was put first must not come back when what was put last goes.
	mustDelete(t, s, 4)
	delete(want, 4)
	mustHold(t, s, want)
	mustHold(t, mustMount(t, s.Disks(), 0), want)
}

func TestDelete(t *testing.T) {
	s, values := filled(t, blankDisks(18, 12))
	for id := range values {
		mustDelete(t, s, id)
		if e := s.Delete(id); e != api.ErrNone {
			t.Errorf("P8: Delete(%d) again = %d, want ErrNone", id, e)
		}
		delete(values, id)
		mustHold(t, s, values)
		s = mustMount(t, s.Disks(), math.MaxInt)
		mustHold(t, s, values)
	}
	if list := s.List(); len(list) != 0 {
		t.Errorf("P8: List of nothing = %v", list)
	}
	mustPut(t, s, 6, []byte("six"))
	mustHold(t, mustMount(t, s.Disks(), 0), map[int][]byte{6: []byte("six")})
}

func TestListIsInOrderOfIds(t *testing.T) {
	s := mustMount(t, blankDisks(14, 64), math.MaxInt)
	var want []api.Health
	for k := range 62 {
		id := 1 + 7919*k%api.MaxId
		mustPut(t, s, id, make([]byte, k))
		want = append(want, api.Health{Id: id, Size: k})
		slices.SortFunc(want, func(a, b api.Health) int { return a.Id - b.Id })
		if list := s.List(); !slices.Equal(list, want) {
			t.Fatalf("P8: List = %v, want %v", list, want)
		}
	}
	for range 30 {
		if list := mustMount(t, s.Disks(), 0).List(); !slices.Equal(list, want) {
			t.Fatalf("P2, P8: List = %v, want %v", list, want)
		}
	}
}

// TestBadTellsLostPieces: on fourteen disks each value has a piece on each.
func TestBadTellsLostPieces(t *testing.T) {
	s, values := filled(t, blankDisks(14, 9))
	for lost := range 5 {
		disks := s.Disks()
		for k := range lost {
			disks[(3+4*k)%14] = ""
		}
		mounted := mustMount(t, disks, math.MaxInt)
		mustHold(t, mounted, values)
		for _, h := range mounted.List() {
			if h.Bad != lost {
				t.Errorf("P8: %d disks lost: %v", lost, h)
			}
		}
		mustPut(t, mounted, 1, values[1])
		for _, h := range mounted.List() {
			if h.Id == 1 && h.Bad != 0 || h.Id != 1 && h.Bad != lost {
				t.Errorf("P8: %d disks lost, 1 put anew: %v", lost, h)
			}
		}
		mustHold(t, mustMount(t, mounted.Disks(), 0), values)
	}
}

func TestTwoStoresInTurns(t *testing.T) {
	run := func(seed int, beside func(step int)) []string {
		s := mustMount(t, blankDisks(14+seed, 6), math.MaxInt)
		for step := range 40 {
			beside(step)
			id := 1 + (step*seed+step/7)%6
			if step%5 == 4 {
				s.Delete(id)
			} else {
				s.Put(id, someBytes(step*9, uint32(seed)))
			}
		}
		return s.Disks()
	}
	alone := [][]string{run(1, func(int) {}), run(2, func(int) {})}
	other := mustMount(t, blankDisks(15, 6), math.MaxInt)
	for k, want := range alone {
		got := run(k+1, func(step int) {
			other.Put(1+step%4, someBytes(step, 5))
			other.List()
			if step%9 == 8 {
				other.Delete(1 + step%4)
			}
		})
		if !slices.Equal(got, want) {
			t.Errorf("P2: store %d writes otherwise beside another", k)
		}
	}
}

func TestStoresOfTheSameDisks(t *testing.T) {
	first, values := filled(t, blankDisks(14, 5))
	disks := first.Disks()
	second := mustMount(t, disks, math.MaxInt)
	mustDelete(t, first, 1)
	mustPut(t, first, 9, []byte("nine"))
	mustHold(t, second, values)
	if !slices.Equal(second.Disks(), disks) {
		t.Error("P2: two stores of the same disks share some")
	}
}

func TestStoreLeavesWhatIsHandedIn(t *testing.T) {
	room := slices.Repeat([]string{"spare"}, 20)
	disks := room[2:16]
	copy(disks, blankDisks(14, 5))
	before := slices.Clone(room)
	s := mustMount(t, disks, math.MaxInt)
	space := someBytes(500, 8)
	spaceBefore := bytes.Clone(space)
	mustPut(t, s, 1, space[50:450])
	mustPut(t, s, 2, space[50:53])
	if !slices.Equal(room, before) || !bytes.Equal(space, spaceBefore) {
		t.Error("P2: what is handed in is written into")
	}
	clear(room)
	clear(space)
	mustHold(t, s, map[int][]byte{1: spaceBefore[50:450], 2: spaceBefore[50:53]})
}

func TestStoreAnswersAreTheCallers(t *testing.T) {
	s, values := filled(t, blankDisks(14, 8))
	before := s.Disks()
	for id, value := range values {
		got, _ := s.Get(id)
		room := got[:cap(got)]
		for i := range room {
			room[i] ^= 0xff
		}
		if again, _ := s.Get(id); !bytes.Equal(again, value) {
			t.Errorf("P2: Get(%d): what is written into the answer shows", id)
		}
	}
	list := s.List()
	clear(list[:cap(list)])
	disks := s.Disks()
	clear(disks[:cap(disks)])
	mustHold(t, s, values)
	if !slices.Equal(s.Disks(), before) {
		t.Error("P2: what is written into an answer shows on the disks")
	}
}

func TestReadingChangesNothing(t *testing.T) {
	s, values := filled(t, blankDisks(14, 8))
	disks := s.Disks()
	disks[3], disks[12] = "", ""
	s = mustMount(t, disks, math.MaxInt)
	before, list := s.Disks(), s.List()
	for range 3 {
		mustHold(t, s, values)
		if !slices.Equal(s.Disks(), before) || !slices.Equal(s.List(), list) {
			t.Fatal("P8: Get, List or Disks changes something")
		}
	}
}
