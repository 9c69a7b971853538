package mosaic

import (
	"bytes"
	"runtime"
	"sync"
	"testing"

	"mosaic/api"
)

func mustCut(t *testing.T, value []byte) [][]byte {
	t.Helper()
	pieces, e := Cut(value)
	if e != api.OK || len(pieces) != api.Pieces {
		t.Fatalf("P4: Cut of %d bytes: %d pieces, %d", len(value), len(pieces), e)
	}
	return pieces
}

func samePieces(a [][]byte, b [][]byte) bool {
	if len(a) != len(b) {
		return false
	}
	for k := range a {
		if !bytes.Equal(a[k], b[k]) || (a[k] == nil) != (b[k] == nil) {
			return false
		}
	}
	return true
}

func copyPieces(pieces [][]byte) [][]byte {
	var copied [][]byte
	for _, p := range pieces {
		copied = append(copied, bytes.Clone(p))
	}
	return copied
}

func TestCutOfNoBytes(t *testing.T) {
	for _, value := range [][]byte{nil, {}, make([]byte, 0, 50)} {
		for k, p := range mustCut(t, value) {
			if p == nil || len(p) != 0 {
				t.Errorf("P4: Cut of no bytes: piece %d is %#v", k, p)
			}
		}
	}
}

func TestCutExamples(t *testing.T) {
	for k, p := range mustCut(t, bytes.Repeat([]byte{5}, 10)) {
		if !bytes.Equal(p, []byte{5}) {
			t.Errorf("P4: Cut of ten bytes 5: piece %d is %v", k, p)
		}
	}
	for k, p := range mustCut(t, []byte{0, 1, 2, 3, 4, 5, 6, 7, 8, 9}) {
		if !bytes.Equal(p, []byte{byte(k)}) {
			t.Errorf("P4: Cut of the bytes 0 to 9: piece %d is %v", k, p)
		}
	}
}

func TestCutRowsAreTheValueAndNoughts(t *testing.T) {
	for n := range api.MaxValue + 1 {
		value := someBytes(n, uint32(n))
		pieces := mustCut(t, value)
		length := n / 10
		if n%10 != 0 {
			length++
		}
		want := append(append([]byte{}, value...), make([]byte, 10*length-n)...)
		if got := bytes.Join(pieces[:api.Data], nil); !bytes.Equal(got, want) {
			t.Fatalf("P4: Cut of %d bytes: rows %v, want %v", n, got, want)
		}
		for k, p := range pieces {
			if p == nil || len(p) != length {
				t.Fatalf("P4: Cut of %d bytes: piece %d has %d bytes, want %d", n, k, len(p), length)
			}
		}
	}
}

func TestCutPiecesLieOnOnePolynomial(t *testing.T) {
	f := newElements()
	for n := range api.MaxValue + 1 {
		pieces := mustCut(t, someBytes(n, uint32(1000+n)))
		for i := range pieces[0] {
			var values []int
			for _, p := range pieces {
				values = append(values, int(p[i]))
			}
			if !f.fits(values) {
				t.Fatalf("P4: Cut of %d bytes: place %d of the pieces: %v", n, i, values)
			}
		}
	}
}

func TestCutOfKnownPolynomials(t *testing.T) {
	f := newElements()
	for degree := range api.Data {
		for _, leading := range []int{1, 2, 128, 255} {
			polynomial := make([]int, degree+1)
			for k, b := range someBytes(degree, uint32(degree)) {
				polynomial[k] = int(b)
			}
			polynomial[degree] = leading
			var value []byte
			for x := range api.Data {
				value = append(value, byte(f.value(polynomial, x)))
			}
			for x, p := range mustCut(t, value) {
				if want := byte(f.value(polynomial, x)); !bytes.Equal(p, []byte{want}) {
					t.Errorf("P4: Cut of the polynomial %v: piece %d is %v, want %d", polynomial, x, p, want)
				}
			}
		}
	}
}

func TestCutOfTooLongValues(t *testing.T) {
	mustCut(t, make([]byte, api.MaxValue))
	for _, n := range []int{api.MaxValue + 1, api.MaxValue + 9, 410, 4000, 1 << 20} {
		if pieces, e := Cut(make([]byte, n)); pieces != nil || e != api.ErrArg {
			t.Errorf("P1, P4: Cut of %d bytes: %v, %d, want nil, ErrArg", n, pieces, e)
		}
	}
	room := make([]byte, api.MaxValue+100)
	mustCut(t, room[:api.MaxValue])
}

func TestCutLeavesWhatIsHandedIn(t *testing.T) {
	for _, n := range []int{0, 1, 9, 10, 11, 95, 399, 400, 401, 450} {
		room := someBytes(n+60, 7)
		before := append([]byte{}, room...)
		pieces, _ := Cut(room[20 : 20+n])
		if !bytes.Equal(room, before) {
			t.Errorf("P2: Cut of %d bytes wrote into what was handed in, or around it", n)
		}
		kept := copyPieces(pieces)
		for i := range room {
			room[i] ^= 0xff
		}
		if !samePieces(pieces, kept) {
			t.Errorf("P2: Cut of %d bytes: the pieces change with what was handed in", n)
		}
	}
}

func TestCutTakesNothingFromTheSpareRoom(t *testing.T) {
	room := bytes.Repeat([]byte{0xee}, 100)
	copy(room, "eleven byte")
	if got, want := mustCut(t, room[:11]), mustCut(t, []byte("eleven byte")); !samePieces(got, want) {
		t.Errorf("P2, P4: Cut with bytes behind the value: %v, want %v", got, want)
	}
}

func TestCutPiecesAreTheCallers(t *testing.T) {
	for _, n := range []int{0, 1, 10, 11, 77, 400} {
		value := someBytes(n, 3)
		first, second := mustCut(t, value), mustCut(t, value)
		want := copyPieces(second)
		for k, p := range first {
			room := p[:cap(p)]
			for i := range room {
				room[i] = byte(200 + k)
			}
		}
		for k, p := range first {
			room := p[:cap(p)]
			if !bytes.Equal(room, bytes.Repeat([]byte{byte(200 + k)}, len(room))) {
				t.Errorf("P2: Cut of %d bytes: piece %d, or its spare room, is another's too", n, k)
			}
		}
		clear(first[:cap(first)])
		if !bytes.Equal(value, someBytes(n, 3)) || !samePieces(second, want) || !samePieces(mustCut(t, value), want) {
			t.Errorf("P2: Cut of %d bytes: what is written into the pieces shows elsewhere", n)
		}
	}
}

func TestCutHangsOnTheValueAlone(t *testing.T) {
	value := someBytes(397, 11)
	want := mustCut(t, value)
	processors := runtime.GOMAXPROCS(1)
	for range 50 {
		if !samePieces(mustCut(t, value), want) {
			t.Fatal("P2: Cut on one processor answers otherwise")
		}
	}
	runtime.GOMAXPROCS(processors)
	var callers sync.WaitGroup
	var answers [64][][]byte
	for k := range answers {
		callers.Add(1)
		go func() {
			defer callers.Done()
			answers[k], _ = Cut(value)
		}()
	}
	callers.Wait()
	for k := range answers {
		if !samePieces(answers[k], want) {
			t.Fatalf("P2: Cut beside others, call %d, answers otherwise", k)
		}
	}
}
