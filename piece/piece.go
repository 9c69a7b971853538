// Package piece cuts values into pieces, reckons pieces of other pieces, and joins values of them.
package piece

import (
	"sync"

	"mosaic/api"
	"mosaic/field"
)

// Cut tells a value's fourteen pieces.
func Cut(value []byte) ([][]byte, api.Errno) {
	if len(value) > api.MaxValue {
		return nil, api.ErrArg
	}
	length := RowLength(len(value))
	all := make([][]byte, api.Pieces)
	var known [api.Data]int
	for k := range known {
		known[k] = k
		all[k] = row(value, k, length)
	}
	fillLacking(all, known, length)
	return all, api.OK
}

// Mend tells all fourteen pieces, as the first ten of those that are there (which are not nil) settle them.
func Mend(pieces [][]byte) ([][]byte, api.Errno) {
	if len(pieces) != api.Pieces {
		return nil, api.ErrArg
	}
	length, same := oneLength(pieces)
	if !same || length > api.MaxValue {
		return nil, api.ErrArg
	}
	known, enough := firstTen(pieces)
	if !enough {
		return nil, api.ErrFew
	}
	// What is there beyond the first ten is left out here, and so reckoned with what is lacking.
	all := make([][]byte, api.Pieces)
	for _, k := range known {
		own := make([]byte, length)
		copy(own, pieces[k])
		all[k] = own
	}
	fillLacking(all, known, length)
	return all, api.OK
}

// Join tells the first n bytes of the ten rows, one behind the other.
func Join(pieces [][]byte, n int) ([]byte, api.Errno) {
	all, e := Mend(pieces)
	if e != api.OK {
		return nil, e
	}
	if n < 0 || n > api.Data*len(all[0]) {
		return nil, api.ErrArg
	}
	value := make([]byte, n)
	filled := 0
	for _, source := range all[:api.Data] {
		filled += copy(value[filled:], source)
	}
	return value, api.OK
}

// oneLength tells the length of the pieces that are there (0, if none is), and whether they all have it.
func oneLength(pieces [][]byte) (int, bool) {
	length, met := 0, false
	for _, p := range pieces {
		if p == nil {
			continue
		}
		if met && len(p) != length {
			return 0, false
		}
		length, met = len(p), true
	}
	return length, true
}

// firstTen tells the numbers of the first ten pieces that are there, and whether there are so many.
func firstTen(pieces [][]byte) ([api.Data]int, bool) {
	var known [api.Data]int
	count := 0
	for k, p := range pieces {
		if p != nil && count < api.Data {
			known[count] = k
			count++
		}
	}
	return known, count == api.Data
}

// RowLength tells the length of the rows, and so of the pieces, of a value of this size.
func RowLength(size int) int {
	return (size + api.Data - 1) / api.Data
}

// row copies row k of a value into memory of its own; where the value ends, noughts stand.
func row(value []byte, k int, length int) []byte {
	start := min(k*length, len(value))
	end := min(start+length, len(value))
	own := make([]byte, length)
	copy(own, value[start:end])
	return own
}

// fillLacking reckons each piece of all that is nil from the known ones.
func fillLacking(all [][]byte, known [api.Data]int, length int) {
	var rows [api.Data][]byte
	for j, k := range known {
		rows[j] = all[k]
	}
	var workers sync.WaitGroup
	for k := range all {
		if all[k] != nil {
			continue
		}
		place := make([]byte, length)
		all[k] = place
		workers.Add(1)
		go func() {
			defer workers.Done()
			reckon(place, rows, weights(known, k))
		}()
	}
	workers.Wait()
}

// reckon writes the weighted sum of the rows into place.
func reckon(place []byte, rows [api.Data][]byte, weight [api.Data]byte) {
	for j, source := range rows {
		for i := range place {
			place[i] ^= field.Mul(weight[j], source[i])
		}
	}
}

// weights tells by what each known piece counts in piece k: Lagrange's polynomials of the known places, at k.
func weights(known [api.Data]int, k int) [api.Data]byte {
	var weight [api.Data]byte
	for j := range known {
		weight[j] = field.Mul(distances(known, j, k), field.Inverse(distances(known, j, known[j])))
	}
	return weight
}

// distances tells the product of k less each known place but the one at j; less is exclusive or, as plus is.
func distances(known [api.Data]int, j int, k int) byte {
	product := byte(1)
	for m, place := range known {
		if m != j {
			product = field.Mul(product, byte(k)^byte(place))
		}
	}
	return product
}
