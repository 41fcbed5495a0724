package gauge

// bitWriter lays bits down in bytes, the highest bit of each byte first.
type bitWriter struct {
	bytes []byte
	last  byte // the byte that is not whole yet
	held  int  // how many bits it has
}

// write lays down the lowest bits of a number, as many as are asked for, the highest of them first.
func (w *bitWriter) write(number uint64, count int) {
	for i := count - 1; i >= 0; i-- {
		w.last = w.last<<1 | byte(number>>i&1)
		w.held++
		if w.held == 8 {
			w.bytes = append(w.bytes, w.last)
			w.held = 0
		}
	}
}

// fillUp makes the last byte whole. Bits that are written and not filled up are not among the bytes.
func (w *bitWriter) fillUp() {
	for w.held > 0 {
		w.write(0, 1)
	}
}

// tooFewBits is what whoever reads bits gives up with.
type tooFewBits struct{}

// bitReader reads the bits of bytes, the highest bit of each byte first.
type bitReader struct {
	bytes string
	next  int // how many bits have been read
}

// read tells the number that the next bits are, as many as are asked for; it panics with tooFewBits where there are not enough.
func (r *bitReader) read(count int) uint64 {
	number := uint64(0)
	for range count {
		if r.next/8 >= len(r.bytes) {
			panic(tooFewBits{})
		}
		number = number<<1 | uint64(r.bytes[r.next/8]>>(7-r.next%8)&1)
		r.next++
	}
	return number
}
