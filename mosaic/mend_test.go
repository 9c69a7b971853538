package mosaic

import (
	"bytes"
	"math/bits"
	"runtime"
	"sync"
	"testing"

	"mosaic/api"
)

func mustMend(t *testing.T, pieces [][]byte) [][]byte {
	t.Helper()
	all, e := Mend(pieces)
	if e != api.OK || len(all) != api.Pieces {
		t.Fatalf("P5: Mend: %d pieces, %d", len(all), e)
	}
	return all
}

// freePieces tells as many pieces, none of which another one settles.
func freePieces(count int, length int, seed uint32) [][]byte {
	var pieces [][]byte
	for k := range count {
		pieces = append(pieces, someBytes(length, seed+uint32(100*k)))
	}
	return pieces
}

// only tells copies of the pieces whose bits are set in chosen, and nil for the others.
func only(pieces [][]byte, chosen int) [][]byte {
	some := make([][]byte, len(pieces))
	for k := range pieces {
		if chosen>>k&1 == 1 {
			some[k] = bytes.Clone(pieces[k])
		}
	}
	return some
}

func isSettled(f *elements, pieces [][]byte) bool {
	for i := range pieces[0] {
		var values []int
		for _, p := range pieces {
			values = append(values, int(p[i]))
		}
		if !f.fits(values) {
			return false
		}
	}
	return true
}

func TestMendOfEachChoiceOfPieces(t *testing.T) {
	whole := mustCut(t, someBytes(33, 5))
	for chosen := range 1 << api.Pieces {
		some := only(whole, chosen)
		if bits.OnesCount(uint(chosen)) < api.Data {
			if all, e := Mend(some); all != nil || e != api.ErrFew {
				t.Fatalf("P1, P5: Mend of the pieces %014b: %v, %d, want nil, ErrFew", chosen, all, e)
			}
			continue
		}
		if all := mustMend(t, some); !samePieces(all, whole) {
			t.Fatalf("P5: Mend of the pieces %014b: %v, want %v", chosen, all, whole)
		}
	}
}

func TestMendOfAllLengths(t *testing.T) {
	f := newElements()
	for length := range api.MaxValue + 1 {
		some := freePieces(api.Pieces, length, uint32(length))
		lost := [4]int{length % 14, (length + 1) % 14, (length + 5) % 14, (length + 9) % 14}
		for _, k := range lost {
			some[k] = nil
		}
		all := mustMend(t, some)
		for k, p := range all {
			if p == nil || len(p) != length || some[k] != nil && !bytes.Equal(p, some[k]) {
				t.Fatalf("P5: Mend of pieces of %d bytes without %v: piece %d is %v, was %v", length, lost, k, p, some[k])
			}
		}
		if !isSettled(f, all) {
			t.Fatalf("P5: Mend of pieces of %d bytes without %v: %v lie on no polynomial", length, lost, all)
		}
	}
}

func TestMendTheFirstTenCount(t *testing.T) {
	f := newElements()
	free := freePieces(api.Pieces, 3, 9)
	for chosen := range 1 << api.Pieces {
		if bits.OnesCount(uint(chosen)) <= api.Data {
			continue
		}
		all := mustMend(t, only(free, chosen))
		count := 0
		for k := range free {
			if chosen>>k&1 == 0 || count == api.Data {
				continue
			}
			count++
			if !bytes.Equal(all[k], free[k]) {
				t.Fatalf("P5: Mend of the pieces %014b: piece %d is %v, was %v", chosen, k, all[k], free[k])
			}
		}
		if !isSettled(f, all) {
			t.Fatalf("P5: Mend of the pieces %014b: %v are not as the first ten settle them", chosen, all)
		}
	}
}

func TestMendMakesGoodWhatIsWrongBehindTheFirstTen(t *testing.T) {
	whole := mustCut(t, someBytes(200, 2))
	for k := api.Data; k < api.Pieces; k++ {
		some := copyPieces(whole)
		some[k][7] ^= 1
		if all := mustMend(t, some); !samePieces(all, whole) {
			t.Errorf("P5: Mend with piece %d turned: %v, want %v", k, all, whole)
		}
	}
	some := copyPieces(whole)
	some[4][7] ^= 1
	if all := mustMend(t, some); !samePieces(all[:api.Data], some[:api.Data]) || bytes.Equal(all[13], whole[13]) {
		t.Errorf("P5: Mend with piece 4 turned: %v", all)
	}
}

func TestMendOfNoBytes(t *testing.T) {
	for _, chosen := range []int{1<<14 - 1, 1<<10 - 1, 1<<14 - 1<<4, 0b10110111101101} {
		some := make([][]byte, api.Pieces)
		for k := range some {
			if chosen>>k&1 == 1 {
				some[k] = make([]byte, 0, k)
			}
		}
		for k, p := range mustMend(t, some) {
			if p == nil || len(p) != 0 {
				t.Errorf("P5: Mend of the pieces %014b of no bytes: piece %d is %#v", chosen, k, p)
			}
		}
	}
	nine := make([][]byte, api.Pieces)
	for k := range nine[:9] {
		nine[k] = []byte{}
	}
	if all, e := Mend(nine); all != nil || e != api.ErrFew {
		t.Errorf("P5: Mend of nine pieces of no bytes: %v, %d, want nil, ErrFew", all, e)
	}
}

// badPieces tells pieces that are none for Mend and Join, and what these must answer.
func badPieces() map[string]struct {
	pieces [][]byte
	want   api.Errno
} {
	with := func(chosen int, lengths ...int) [][]byte {
		some := only(freePieces(api.Pieces, 2, 1), chosen)
		for i, length := range lengths {
			some[13-i] = make([]byte, length)
		}
		return some
	}
	const full = 1<<14 - 1
	return map[string]struct {
		pieces [][]byte
		want   api.Errno
	}{
		"nil":                             {nil, api.ErrArg},
		"no pieces":                       {[][]byte{}, api.ErrArg},
		"one":                             {[][]byte{{1}}, api.ErrArg},
		"ten":                             {freePieces(10, 2, 1), api.ErrArg},
		"thirteen":                        {freePieces(13, 2, 1), api.ErrArg},
		"thirteen with spare room":        {freePieces(14, 2, 1)[:13], api.ErrArg},
		"fifteen":                         {freePieces(15, 2, 1), api.ErrArg},
		"twenty-eight":                    {freePieces(28, 2, 1), api.ErrArg},
		"thirteen that lack":              {make([][]byte, 13), api.ErrArg},
		"fifteen that lack":               {make([][]byte, 15), api.ErrArg},
		"a last one too short":            {with(full, 1), api.ErrArg},
		"a last one too long":             {with(full, 3), api.ErrArg},
		"a last one of none":              {with(full, 0), api.ErrArg},
		"two of none, too few":            {with(1, 0, 0), api.ErrArg},
		"two lengths, too few":            {with(1, 3), api.ErrArg},
		"two lengths, of which none is 0": {with(0, 1, 2), api.ErrArg},
		"none and one":                    {with(0, 0, 1), api.ErrArg},
		"one and none":                    {with(0, 1, 0), api.ErrArg},
		"all of 401 bytes":                {freePieces(14, 401, 1), api.ErrArg},
		"all of 4000 bytes":               {freePieces(14, 4000, 1), api.ErrArg},
		"one of 401 bytes":                {with(0, 401), api.ErrArg},
		"one of a million bytes":          {with(0, 1<<20), api.ErrArg},
		"all but one lack":                {with(0, 2), api.ErrFew},
		"one of 400 bytes":                {with(0, 400), api.ErrFew},
		"one of no bytes":                 {with(0, 0), api.ErrFew},
		"all lack":                        {make([][]byte, 14), api.ErrFew},
		"five lack":                       {with(full &^ 31), api.ErrFew},
		"five others lack":                {with(full >> 5), api.ErrFew},
	}
}

func TestMendErrors(t *testing.T) {
	for name, c := range badPieces() {
		if all, e := Mend(c.pieces); all != nil || e != c.want {
			t.Errorf("P1, P5: Mend of %s: %v, %d, want nil, %d", name, all, e, c.want)
		}
	}
}

// inOneRoom lays pieces one behind the other, so that each one's spare room is the next one.
func inOneRoom(pieces [][]byte) ([]byte, [][]byte) {
	room := append(bytes.Join(pieces, nil), 1, 2, 3)
	laid := make([][]byte, len(pieces), len(pieces)+3)
	start := 0
	for k, p := range pieces {
		if p != nil {
			laid[k] = room[start : start+len(p)]
			start += len(p)
		}
	}
	return room, laid
}

func TestMendLeavesWhatIsHandedIn(t *testing.T) {
	for _, chosen := range []int{1<<14 - 1, 1<<14 - 1<<4, 1<<10 - 1, 0b01101111110110, 0b00001111111110} {
		for _, length := range []int{0, 1, 40, 400} {
			room, laid := inOneRoom(only(freePieces(api.Pieces, length, 4), chosen))
			roomBefore, before := bytes.Clone(room), copyPieces(laid)
			behind := [][]byte{{8}, {9}, nil}
			copy(laid[:17][14:], behind)
			all, _ := Mend(laid)
			if !bytes.Equal(room, roomBefore) || !samePieces(laid, before) || !samePieces(laid[:17][14:], behind) {
				t.Errorf("P2: Mend of the pieces %014b of %d bytes wrote into what was handed in", chosen, length)
			}
			kept := copyPieces(all)
			for i := range room {
				room[i] ^= 0xff
			}
			clear(laid)
			if !samePieces(all, kept) {
				t.Errorf("P2: Mend of the pieces %014b of %d bytes: the answer changes with what was handed in", chosen, length)
			}
		}
	}
}

func TestMendPiecesAreTheCallers(t *testing.T) {
	for _, chosen := range []int{1<<14 - 1, 1<<14 - 1<<4, 0b01101111110110} {
		for _, length := range []int{0, 1, 40, 400} {
			some := only(freePieces(api.Pieces, length, 4), chosen)
			before := copyPieces(some)
			first, second := mustMend(t, some), mustMend(t, some)
			want := copyPieces(second)
			for k, p := range first {
				room := p[:cap(p)]
				for i := range room {
					room[i] = byte(200 + k)
				}
			}
			for k, p := range first {
				room := p[:cap(p)]
				if !bytes.Equal(room, bytes.Repeat([]byte{byte(200 + k)}, len(room))) {
					t.Errorf("P2: Mend of the pieces %014b: piece %d, or its spare room, is another's too", chosen, k)
				}
			}
			clear(first[:cap(first)])
			if !samePieces(some, before) || !samePieces(second, want) || !samePieces(mustMend(t, some), want) {
				t.Errorf("P2: Mend of the pieces %014b: what is written into the answer shows elsewhere", chosen)
			}
		}
	}
}

func TestMendOfOneSliceAtAllPlaces(t *testing.T) {
	one := []byte{3, 200, 0}
	some := make([][]byte, api.Pieces)
	for k := range some {
		some[k] = one
	}
	some[2], some[11] = nil, nil
	all := mustMend(t, some)
	for k := range all {
		if !bytes.Equal(all[k], []byte{3, 200, 0}) {
			t.Fatalf("P5: Mend of one slice at all places: piece %d is %v", k, all[k])
		}
		all[k][0] = byte(k) // no other piece may turn
	}
	if one[0] != 3 {
		t.Error("P2: Mend of one slice at all places: the answer shares its memory")
	}
}

func TestMendHangsOnThePiecesAlone(t *testing.T) {
	some := only(freePieces(api.Pieces, 399, 11), 1<<14-1<<4)
	want := mustMend(t, some)
	processors := runtime.GOMAXPROCS(1)
	for range 20 {
		if !samePieces(mustMend(t, some), want) {
			t.Fatal("P2: Mend on one processor answers otherwise")
		}
	}
	runtime.GOMAXPROCS(processors)
	var callers sync.WaitGroup
	var answers [64][][]byte
	for k := range answers {
		callers.Add(1)
		go func() {
			defer callers.Done()
			answers[k], _ = Mend(some)
		}()
	}
	callers.Wait()
	for k := range answers {
		if !samePieces(answers[k], want) {
			t.Fatalf("P2: Mend beside others, call %d, answers otherwise", k)
		}
	}
}
