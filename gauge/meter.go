package gauge

import (
	"cmp"
	"maps"
	"math"
	"slices"
)

const (
	maxSlices = 8
	maxWidth  = 1000000
	maxTime   = 1099511627776
	maxParts  = 1000

	coarseBits = 45 // the lowest of a value, which its bucket leaves out
)

// Meter counts samples in slices of time, and says by them how many workers there should be.
type Meter struct {
	width   int
	clock   int
	kept    []tally // of each slice that is kept, the present one first
	rule    *rule   // nil as long as there is none
	workers int
	changed int // where the clock was when Decide last changed the workers
}

// New makes a meter (P6).
func New(slices int, width int) (*Meter, Errno) {
	if slices < 1 || slices > maxSlices || width < 1 || width > maxWidth {
		return nil, ErrArg
	}
	// The longest rest has gone by since then, so that none holds back the first change.
	return &Meter{width: width, kept: make([]tally, slices), workers: 1, changed: -maxTime}, OK
}

// Tick moves a meter's clock (P6).
func (m *Meter) Tick(t int) Errno {
	if t < m.clock || t > maxTime {
		return ErrArg
	}
	m.begin(-m.age(t))
	m.clock = t
	return OK
}

// age tells how many slices a time's slice is ahead of the present one; below 0, if it is behind.
// No time below 0 is asked for, so that rounding towards 0 is rounding down.
func (m *Meter) age(t int) int {
	return m.clock/m.width - t/m.width
}

// begin lets some slices begin, the last of which is the present one from then on.
func (m *Meter) begin(count int) {
	fresh := min(count, len(m.kept))
	copy(m.kept[fresh:], m.kept)
	clear(m.kept[:fresh])
}

// Add counts a sample (P6).
func (m *Meter) Add(t int, value uint64) Errno {
	if t < 0 || t > maxTime {
		return ErrArg
	}
	if isNoNumber(value) {
		return ErrValue
	}
	age := m.age(t)
	if age >= len(m.kept) {
		return ErrOld
	}
	if age < 0 {
		return ErrSoon
	}
	if m.kept[age] == nil {
		m.kept[age] = make(tally)
	}
	m.kept[age][bucketOf(value)]++
	return OK
}

func isNoNumber(value uint64) bool {
	return math.IsNaN(math.Float64frombits(value))
}

// bucketOf tells the bucket of a number or an infinity: an infinity has none of the bits that are left out.
func bucketOf(value uint64) uint64 {
	const leastUsual = 0x1p-1022
	if math.Abs(math.Float64frombits(value)) < leastUsual {
		return 0
	}
	return value >> coarseBits << coarseBits
}

// Count tells how many samples there are (P7).
func (m *Meter) Count(k int) (int, Errno) {
	if k < 1 || k > len(m.kept) {
		return 0, ErrArg
	}
	count := 0
	for _, slice := range m.kept[:k] {
		count += slice.samples()
	}
	return count, OK
}

// Quantile tells the bucket below which a part of the samples lies (P7).
func (m *Meter) Quantile(k int, a int, b int) (uint64, Errno) {
	if k < 1 || k > len(m.kept) || b < 1 || b > maxParts || a < 0 || a > b {
		return 0, ErrArg
	}
	last := m.last(k)
	n := last.samples()
	if n == 0 {
		return 0, ErrEmpty
	}
	return last.atRank(max(1, roundedUp(a*n, b))), OK
}

// roundedUp tells the least whole number that is at least n / b.
func roundedUp(n int, b int) int {
	return (n + b - 1) / b
}

// last tells the tally of the last k slices together.
func (m *Meter) last(k int) tally {
	sum := make(tally)
	for _, slice := range m.kept[:k] {
		for bucket, samples := range slice {
			sum[bucket] += samples
		}
	}
	return sum
}

// tally is how many samples each bucket has.
type tally map[uint64]int

func (t tally) samples() int {
	sum := 0
	for _, samples := range t {
		sum += samples
	}
	return sum
}

// atRank tells the bucket of the sample with this rank, the lowest first. The tally has as many samples.
func (t tally) atRank(rank int) uint64 {
	buckets := slices.SortedFunc(maps.Keys(t), compareNumbers)
	i := 0
	for rank > t[buckets[i]] {
		rank -= t[buckets[i]]
		i++
	}
	return buckets[i]
}

// compareNumbers compares values as the numbers that they are: by their bits those below 0 would go the other way, and behind those above.
func compareNumbers(a uint64, b uint64) int {
	return cmp.Compare(math.Float64frombits(a), math.Float64frombits(b))
}
