package block

// divisor is the polynomial x^32 + x^26 + x^23 + .. + x + 1 without its highest term; the term of degree 0 is the highest bit.
const divisor = 0xedb88320

// rest tells what remains of the bytes' bits, as a polynomial over the field of two, times x^32, divided by the divisor.
// The bits count in the order in which damage runs over a disk, the lowest of each byte first: so no damage of
// up to 32 bits that follow one another, the rest's own bits among them, leaves a block whose rest is 0 at rest 0.
// It starts at 0, so that a blank block is such a block too, and damage does not make a piece of it.
func rest(bytes []byte) uint32 {
	r := uint32(0)
	for _, b := range bytes {
		r ^= uint32(b)
		for range 8 {
			r = r>>1 ^ divisor&-(r&1)
		}
	}
	return r
}
