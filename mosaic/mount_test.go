package mosaic

import (
	"math"
	"runtime"
	"slices"
	"strings"
	"testing"

	"mosaic/api"
)

func TestMountErrors(t *testing.T) {
	of := func(count int, length int) []string {
		return slices.Repeat([]string{strings.Repeat("x", length)}, count)
	}
	for name, disks := range map[string][]string{
		"nothing":                         nil,
		"no disks":                        {},
		"one disk":                        blankDisks(1, 4),
		"thirteen disks":                  blankDisks(13, 4),
		"nineteen disks":                  blankDisks(19, 4),
		"a hundred disks":                 blankDisks(100, 64),
		"three blocks":                    blankDisks(14, 3),
		"65 blocks":                       blankDisks(14, 65),
		"a byte":                          of(14, 1),
		"less than a block":               of(14, api.BlockSize-1),
		"a byte less than four blocks":    of(14, 4*api.BlockSize-1),
		"a byte more than four blocks":    of(14, 4*api.BlockSize+1),
		"a byte more than 64 blocks":      of(14, 64*api.BlockSize+1),
		"a byte less than 64 blocks":      of(18, 64*api.BlockSize-1),
		"another length at the end":       append(blankDisks(13, 4), blankDisks(1, 5)...),
		"another length at the start":     append(blankDisks(1, 5), blankDisks(17, 4)...),
		"another length, behind one lost": append(append(blankDisks(7, 4), ""), blankDisks(7, 6)...),
		"another length, of no blocks":    append(blankDisks(13, 4), "x"),
		"all are lost":                    make([]string, 14),
		"all eighteen are lost":           make([]string, 18),
		"thirteen, and all are lost":      make([]string, 13),
		"too short, and some lost":        append(blankDisks(13, 3), ""),
		"one lost of thirteen":            append(blankDisks(12, 4), ""),
		"one lost of nineteen":            append(blankDisks(18, 4), ""),
		"one left, of five bytes":         append(make([]string, 13), "xxxxx"),
	} {
		for _, writes := range []int{math.MinInt, -1, 0, 1, 9, math.MaxInt} {
			if s, e := Mount(disks, writes); s != nil || e != api.ErrDisk {
				t.Errorf("P1, P7: %s: Mount = %v, %d, want nil, ErrDisk", name, s != nil, e)
			}
		}
	}
}

func TestMountOfBlankDisks(t *testing.T) {
	for count := api.MinDisks; count <= api.MaxDisks; count++ {
		for blocks := api.MinBlocks; blocks <= api.MaxBlocks; blocks++ {
			s := mustMount(t, blankDisks(count, blocks), math.MaxInt)
			if list := s.List(); len(list) != 0 {
				t.Errorf("P7: List of blank disks = %v", list)
			}
			if !slices.Equal(s.Disks(), blankDisks(count, blocks)) {
				t.Error("P7: Disks of blank disks are not blank")
			}
		}
	}
}

func TestMountOfLostDisks(t *testing.T) {
	for count := api.MinDisks; count <= api.MaxDisks; count++ {
		for left := range count {
			disks := make([]string, count)
			disks[left] = blankDisks(1, 4)[0]
			s := mustMount(t, disks, 0)
			if !slices.Equal(s.Disks(), blankDisks(count, 4)) || len(s.List()) != 0 {
				t.Fatalf("P7: all lost but disk %d: %d disks, %v", left, len(s.Disks()), s.List())
			}
		}
	}
	s, _ := filled(t, blankDisks(14, 4))
	disks := s.Disks()
	want := slices.Clone(disks)
	for _, d := range []int{0, 5, 6, 13} {
		disks[d], want[d] = "", blankDisks(1, 4)[0]
	}
	if got := mustMount(t, disks, 0).Disks(); !slices.Equal(got, want) {
		t.Error("P7: not just the lost disks are blank")
	}
	for d := range disks {
		if d != 7 {
			disks[d] = ""
		}
	}
	if list := mustMount(t, disks, 0).List(); len(list) != 0 {
		t.Errorf("P7: List of one disk = %v", list)
	}
}

// TestMountOfAnyBytes: disks on which no store has been hold nothing, and a store can lie on them.
func TestMountOfAnyBytes(t *testing.T) {
	stored, _ := filled(t, blankDisks(14, 5))
	same := slices.Repeat(stored.Disks()[3:4], 14)
	for name, disks := range map[string][]string{
		"letters":               slices.Repeat([]string{strings.Repeat("x", 480)}, 14),
		"ones":                  slices.Repeat([]string{strings.Repeat("\xff", 480)}, 18),
		"ones in few":           append(blankDisks(10, 5), slices.Repeat([]string{strings.Repeat("\x01", 480)}, 5)...),
		"some bytes":            manyBytes(14, 5),
		"some bytes, and lost":  append(manyBytes(12, 5), "", ""),
		"the same disk, always": same,
		"nine disks of a store": append(stored.Disks()[:9], blankDisks(6, 5)...),
	} {
		for _, writes := range []int{math.MinInt, -1, 0} {
			s := mustMount(t, disks, writes)
			for d, text := range s.Disks() {
				if text != disks[d] && disks[d] != "" {
					t.Errorf("P7: %s: disk %d is written, with %d writes", name, d, writes)
				}
			}
		}
		s := mustMount(t, disks, math.MaxInt)
		if list := s.List(); len(list) != 0 {
			t.Errorf("P7: %s: List = %v", name, list)
		}
		want := map[int][]byte{}
		for id := 1; id <= 3; id++ {
			want[id] = someBytes(100*id, uint32(id))
			mustPut(t, s, id, want[id])
			mustHold(t, s, want)
			mustHold(t, mustMount(t, s.Disks(), 0), want)
		}
	}
}

func manyBytes(count int, blocks int) []string {
	var disks []string
	for d := range count {
		disks = append(disks, string(someBytes(blocks*api.BlockSize, uint32(d))))
	}
	return disks
}

// script calls a store in many ways, and tells all it answered.
func script(s *Store, steps int) []any {
	var answers []any
	for step := range steps {
		id := 1 + 3*step%7
		switch {
		case step%6 == 5:
			answers = append(answers, s.Delete(id))
		case step%13 == 12:
			answers = append(answers, s.Put(id, make([]byte, 401)))
		default:
			answers = append(answers, s.Put(id, someBytes(step*31%401, uint32(step))))
		}
		if step%4 == 1 {
			answers = append(answers, s.Scrub(step%3))
		}
		value, e := s.Get(1 + step%7)
		answers = append(answers, string(value), e, len(s.List()))
		for _, h := range s.List() {
			answers = append(answers, h)
		}
	}
	return answers
}

// TestWritesAreLost: the first ones are written, one block each, and those behind are lost, of which no answer tells.
func TestWritesAreLost(t *testing.T) {
	t.Parallel()
	stored, _ := filled(t, blankDisks(14, 6))
	damaged := stored.Disks()
	damaged[2] = ""
	for name, disks := range map[string][]string{"blank": blankDisks(16, 6), "stored": damaged, "any": manyBytes(14, 6)} {
		start := mustMount(t, disks, 0).Disks()
		whole := mustMount(t, disks, math.MaxInt)
		want := script(whole, 20)
		before, written := start, 0
		for writes := 0; written == 0 || !slices.Equal(before, whole.Disks()); writes++ {
			s := mustMount(t, disks, writes)
			if !slices.Equal(script(s, 20), want) {
				t.Fatalf("P2, P7: %s: with %d writes other answers", name, writes)
			}
			got := s.Disks()
			if changed := changedBlocks(before, got); changed > 1 || writes == 0 && changed > 0 {
				t.Fatalf("P7: %s: the write %d changes %d blocks", name, writes, changed)
			} else {
				written += changed
			}
			if writes > 5000 {
				t.Fatalf("P7: %s: after %d writes not all are written", name, writes)
			}
			before = got
		}
		for _, writes := range []int{math.MinInt, -5000, -1, 0} {
			s := mustMount(t, disks, writes)
			if !slices.Equal(script(s, 20), want) || !slices.Equal(s.Disks(), start) {
				t.Errorf("P7: %s: with %d writes something is written", name, writes)
			}
		}
	}
}

func TestWritesCountFromMountOnward(t *testing.T) {
	s := mustMount(t, blankDisks(14, 4), 20)
	mustPut(t, s, 1, []byte("one"))
	disks := s.Disks()
	mustPut(t, s, 2, []byte("two"))
	if changed := changedBlocks(disks, s.Disks()); changed != 6 {
		t.Errorf("P7: of 20 writes, 14 being done, %d are left", changed)
	}
	s = mustMount(t, disks, 20)
	mustPut(t, s, 2, []byte("two"))
	if changed := changedBlocks(disks, s.Disks()); changed != 14 {
		t.Errorf("P7: mounted anew, a store with 20 writes does %d", changed)
	}
}

// TestTheSameCallsWriteTheSame: whatever the order of maps and goroutines.
func TestTheSameCallsWriteTheSame(t *testing.T) {
	stored, _ := filled(t, blankDisks(17, 20))
	disks := stored.Disks()
	disks[1] = ""
	first := mustMount(t, disks, 300)
	want := script(first, 60)
	for k := range 30 {
		processors := runtime.GOMAXPROCS(1 + k%4)
		s := mustMount(t, disks, 300)
		got := script(s, 60)
		runtime.GOMAXPROCS(processors)
		if !slices.Equal(got, want) || !slices.Equal(s.Disks(), first.Disks()) {
			t.Fatal("P2: the same calls of a store of the same disks answer or write otherwise")
		}
	}
}
