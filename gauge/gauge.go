// Package gauge: numbers that are measured, packed, and steer how many work: see DOC.md.
package gauge

// Errno is what a call answers: OK or the reason for a refusal.
type Errno int

const (
	OK       Errno = 0
	ErrLong  Errno = 1 // a text above its bound
	ErrForm  Errno = 2 // no number's text
	ErrMany  Errno = 3 // too many samples or lists
	ErrChunk Errno = 4 // no chunk
	ErrArg   Errno = 5 // a number that may not be
	ErrValue Errno = 6 // a value that is no number
	ErrOld   Errno = 7 // a sample of a slice that is kept no more
	ErrSoon  Errno = 8 // a sample of a slice that has not begun
	ErrEmpty Errno = 9 // no sample to tell of
)

// Sample is a time and a value, by its bits.
type Sample struct {
	T int
	V uint64
}

// PackAll tells the chunks of lists of samples (P4).
func PackAll(lists [][]Sample) ([]string, Errno) { return nil, OK }

// Merge tells the samples of lists as one list (P5).
func Merge(lists ...[]Sample) ([]Sample, Errno) { return nil, OK }

// Rule sets by what Decide decides (P8).
func (m *Meter) Rule(low uint64, high uint64, least int, most int, rest int) Errno { return OK }

// Decide tells how many workers there are from now on (P8).
func (m *Meter) Decide(k int, a int, b int) (int, Errno) { return 0, OK }
