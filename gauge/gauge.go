// Package gauge: numbers that are measured, packed, and steer how many work: see DOC.md.
package gauge

// Errno is what a call answers: OK or the reason for a refusal.
type Errno int

const (
	OK       Errno = 0
	ErrLong  Errno = 1 // a text above its bound
	ErrForm  Errno = 2 // no number's text
	ErrMany  Errno = 3 // too many samples or lists
	ErrChunk Errno = 4 // no chunk
	ErrArg   Errno = 5 // a number that may not be
	ErrValue Errno = 6 // a value that is no number
	ErrOld   Errno = 7 // a sample of a slice that is kept no more
	ErrSoon  Errno = 8 // a sample of a slice that has not begun
	ErrEmpty Errno = 9 // no sample to tell of
)

// Sample is a time and a value, by its bits.
type Sample struct {
	T int
	V uint64
}
