package gauge_test

// What the document says of meters, told once more by a list of all samples that were ever taken in: slices by where they begin, buckets by their fields, their order by fractions of any length.

import (
	"math/big"
	"slices"

	"gauge/gauge"
)

const (
	minusNought   uint64 = 1 << 63
	minusInfinity        = infinity | signBit
	maxTime              = 1099511627776
)

// plainMeter forgets no sample: what is kept no more is passed over when it is asked.
type plainMeter struct {
	slices, width, clock int
	samples              []gauge.Sample
}

// beginOf tells the first time of the slice that is k - 1 ahead of the present one.
func (p *plainMeter) beginOf(k int) int {
	return p.clock - p.clock%p.width - (k-1)*p.width
}

func (p *plainMeter) tick(t int) gauge.Errno {
	if t < p.clock || t > maxTime {
		return gauge.ErrArg
	}
	p.clock = t
	return gauge.OK
}

func (p *plainMeter) add(t int, value uint64) gauge.Errno {
	switch {
	case t < 0 || t > maxTime:
		return gauge.ErrArg
	case value&^signBit > infinity:
		return gauge.ErrValue
	case t < p.beginOf(p.slices):
		return gauge.ErrOld
	case t >= p.beginOf(1)+p.width:
		return gauge.ErrSoon
	}
	p.samples = append(p.samples, gauge.Sample{T: t, V: value})
	return gauge.OK
}

// last tells the buckets of the samples of the last k slices, the lowest first.
func (p *plainMeter) last(k int) []uint64 {
	var buckets []uint64
	for _, sample := range p.samples {
		if sample.T >= p.beginOf(k) {
			buckets = append(buckets, plainBucket(sample.V))
		}
	}
	slices.SortFunc(buckets, func(a, b uint64) int { return signedExact(a).Cmp(signedExact(b)) })
	return buckets
}

func (p *plainMeter) count(k int) (int, gauge.Errno) {
	if k < 1 || k > p.slices {
		return 0, gauge.ErrArg
	}
	return len(p.last(k)), gauge.OK
}

func (p *plainMeter) quantile(k, a, b int) (uint64, gauge.Errno) {
	if k < 1 || k > p.slices || b < 1 || b > 1000 || a < 0 || a > b {
		return 0, gauge.ErrArg
	}
	last := p.last(k)
	if len(last) == 0 {
		return 0, gauge.ErrEmpty
	}
	return last[plainRank(a, len(last), b)-1], gauge.OK
}

func plainRank(a, n, b int) int {
	r := 1
	for r*b < a*n {
		r++
	}
	return r
}

func plainBucket(value uint64) uint64 {
	sign, e, f := value>>63, value>>52%2048, value%(1<<52)
	if e == 0 {
		return 0
	}
	return sign<<63 + e<<52 + (f - f%(1<<45))
}

// signedExact tells what a number is; of the infinities what would come behind the greatest.
func signedExact(value uint64) *big.Rat {
	exact := exactOf(value &^ signBit)
	if value&signBit != 0 {
		exact.Neg(exact)
	}
	return exact
}
