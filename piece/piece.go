// Package piece cuts values into rows and reckons pieces of other pieces.
package piece

import (
	"sync"

	"mosaic/api"
	"mosaic/field"
)

// Cut tells a value's fourteen pieces.
func Cut(value []byte) ([][]byte, api.Errno) {
	if len(value) > api.MaxValue {
		return nil, api.ErrArg
	}
	length := rowLength(len(value))
	all := make([][]byte, api.Pieces)
	var known [api.Data]int
	for k := range known {
		known[k] = k
		all[k] = row(value, k, length)
	}
	fillLacking(all, known, length)
	return all, api.OK
}

func rowLength(size int) int {
	return (size + api.Data - 1) / api.Data
}

// row copies row k of a value into memory of its own; where the value ends, noughts stand.
func row(value []byte, k int, length int) []byte {
	start := min(k*length, len(value))
	end := min(start+length, len(value))
	own := make([]byte, length)
	copy(own, value[start:end])
	return own
}

// fillLacking reckons each piece of all that is nil from the known ones.
func fillLacking(all [][]byte, known [api.Data]int, length int) {
	var rows [api.Data][]byte
	for j, k := range known {
		rows[j] = all[k]
	}
	var workers sync.WaitGroup
	for k := range all {
		if all[k] != nil {
			continue
		}
		place := make([]byte, length)
		all[k] = place
		workers.Add(1)
		go func() {
			defer workers.Done()
			reckon(place, rows, weights(known, k))
		}()
	}
	workers.Wait()
}

// reckon writes the weighted sum of the rows into place.
func reckon(place []byte, rows [api.Data][]byte, weight [api.Data]byte) {
	for j, source := range rows {
		for i := range place {
			place[i] ^= field.Mul(weight[j], source[i])
		}
	}
}

// weights tells by what each known piece counts in piece k: Lagrange's polynomials of the known places, at k.
func weights(known [api.Data]int, k int) [api.Data]byte {
	var weight [api.Data]byte
	for j := range known {
		weight[j] = field.Mul(distances(known, j, k), field.Inverse(distances(known, j, known[j])))
	}
	return weight
}

// distances tells the product of k less each known place but the one at j; less is exclusive or, as plus is.
func distances(known [api.Data]int, j int, k int) byte {
	product := byte(1)
	for m, place := range known {
		if m != j {
			product = field.Mul(product, byte(k)^byte(place))
		}
	}
	return product
}
