package gauge_test

// What the document says of meters, told once more by a list of all samples that were ever taken in: slices by where they begin, buckets by their fields, their order by fractions of any length.

import (
	"math/big"
	"slices"

	"gauge/gauge"
)

const (
	minusNought   uint64 = 1 << 63
	minusInfinity        = infinity | signBit
	maxTime              = 1099511627776
)

// plainMeter forgets nothing: samples that are kept no more, and rules and changes that others have followed, are passed over when it is asked.
type plainMeter struct {
	slices, width, clock int
	samples              []gauge.Sample
	rules                []plainRule
	workers              int
	changes              []int // the times at which decide changed the workers
}

type plainRule struct {
	low, high         uint64
	least, most, rest int
}

func newPlain(slices, width int) plainMeter {
	return plainMeter{slices: slices, width: width, workers: 1}
}

// beginOf tells the first time of the slice that is k - 1 ahead of the present one.
func (p *plainMeter) beginOf(k int) int {
	return p.clock - p.clock%p.width - (k-1)*p.width
}

func (p *plainMeter) tick(t int) gauge.Errno {
	if t < p.clock || t > maxTime {
		return gauge.ErrArg
	}
	p.clock = t
	return gauge.OK
}

func (p *plainMeter) add(t int, value uint64) gauge.Errno {
	switch {
	case t < 0 || t > maxTime:
		return gauge.ErrArg
	case value&^signBit > infinity:
		return gauge.ErrValue
	case t < p.beginOf(p.slices):
		return gauge.ErrOld
	case t >= p.beginOf(1)+p.width:
		return gauge.ErrSoon
	}
	p.samples = append(p.samples, gauge.Sample{T: t, V: value})
	return gauge.OK
}

// last tells the buckets of the samples of the last k slices, the lowest first.
func (p *plainMeter) last(k int) []uint64 {
	var buckets []uint64
	for _, sample := range p.samples {
		if sample.T >= p.beginOf(k) {
			buckets = append(buckets, plainBucket(sample.V))
		}
	}
	slices.SortFunc(buckets, func(a, b uint64) int { return signedExact(a).Cmp(signedExact(b)) })
	return buckets
}

func (p *plainMeter) count(k int) (int, gauge.Errno) {
	if k < 1 || k > p.slices {
		return 0, gauge.ErrArg
	}
	return len(p.last(k)), gauge.OK
}

func (p *plainMeter) quantile(k, a, b int) (uint64, gauge.Errno) {
	if k < 1 || k > p.slices || b < 1 || b > 1000 || a < 0 || a > b {
		return 0, gauge.ErrArg
	}
	last := p.last(k)
	if len(last) == 0 {
		return 0, gauge.ErrEmpty
	}
	return last[plainRank(a, len(last), b)-1], gauge.OK
}

func (p *plainMeter) rule(r plainRule) gauge.Errno {
	switch {
	case r.low&^signBit > infinity || r.high&^signBit > infinity:
		return gauge.ErrValue
	case signedExact(r.low).Cmp(signedExact(r.high)) > 0:
		return gauge.ErrArg
	case r.least < 1 || r.least > r.most || r.most > 100 || r.rest < 0 || r.rest > maxTime:
		return gauge.ErrArg
	}
	p.rules = append(p.rules, r)
	for p.workers < r.least {
		p.workers++
	}
	for p.workers > r.most {
		p.workers--
	}
	return gauge.OK
}

func (p *plainMeter) decide(k, a, b int) (int, gauge.Errno) {
	bucket, err := p.quantile(k, a, b)
	switch {
	case len(p.rules) == 0 || err == gauge.ErrArg:
		return 0, gauge.ErrArg
	case p.rests() || err == gauge.ErrEmpty:
		return p.workers, gauge.OK
	}
	r, exact := p.rules[len(p.rules)-1], signedExact(bucket)
	switch {
	case exact.Cmp(signedExact(r.high)) > 0 && p.workers < r.most:
		p.workers++
		p.changes = append(p.changes, p.clock)
	case exact.Cmp(signedExact(r.low)) < 0 && p.workers > r.least:
		p.workers--
		p.changes = append(p.changes, p.clock)
	}
	return p.workers, gauge.OK
}

// rests tells whether the last change is nearer than the last rule's rest.
func (p *plainMeter) rests() bool {
	if len(p.changes) == 0 {
		return false
	}
	return p.clock-p.changes[len(p.changes)-1] < p.rules[len(p.rules)-1].rest
}

func plainRank(a, n, b int) int {
	r := 1
	for r*b < a*n {
		r++
	}
	return r
}

func plainBucket(value uint64) uint64 {
	sign, e, f := value>>63, value>>52%2048, value%(1<<52)
	if e == 0 {
		return 0
	}
	return sign<<63 + e<<52 + (f - f%(1<<45))
}

// signedExact tells what a number is; of the infinities what would come behind the greatest.
func signedExact(value uint64) *big.Rat {
	exact := exactOf(value &^ signBit)
	if value&signBit != 0 {
		exact.Neg(exact)
	}
	return exact
}
