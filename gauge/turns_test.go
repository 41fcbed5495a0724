package gauge_test

// P1, P2, P6 and P7 together: meters by turns, each held against its plain one, with calls in between that are refused.

import (
	"math/rand"
	"testing"

	"gauge/gauge"
)

// pair is a meter and the plain one of the same arguments.
type pair struct {
	real  *gauge.Meter
	plain plainMeter
}

func newPair(t *testing.T, slices, width int) *pair {
	t.Helper()
	return &pair{newMeter(t, slices, width), plainMeter{slices: slices, width: width}}
}

func (p *pair) tick(t *testing.T, at int) {
	t.Helper()
	checkTick(t, p.real, at, p.plain.tick(at))
}

func (p *pair) add(t *testing.T, at int, value uint64) {
	t.Helper()
	checkAdd(t, p.real, at, value, p.plain.add(at, value))
}

// check holds all that can be told of the two against each other, and changes neither.
func (p *pair) check(t *testing.T) {
	t.Helper()
	for k := range p.plain.slices + 2 {
		want, wantErr := p.plain.count(k)
		if got, err := p.real.Count(k); got != want || err != wantErr {
			t.Fatalf("Count(%d) = %d, %d; want %d, %d", k, got, err, want, wantErr)
		}
		for _, part := range [][2]int{{0, 1}, {1, 10}, {1, 3}, {1, 2}, {9, 10}, {999, 1000}, {1, 1}, {2, 1}} {
			p.checkPart(t, k, part[0], part[1])
		}
	}
	p.tick(t, p.plain.clock-1)
	p.tick(t, maxTime+1)
	p.tick(t, p.plain.clock)
	p.add(t, p.plain.beginOf(p.plain.slices)-1, 0)
	p.add(t, p.plain.beginOf(1)+p.plain.width, 0)
}

func (p *pair) checkPart(t *testing.T, k, a, b int) {
	t.Helper()
	want, wantErr := p.plain.quantile(k, a, b)
	if got, err := p.real.Quantile(k, a, b); got != want || err != wantErr {
		t.Fatalf("Quantile(%d, %d, %d) = %X, %d; want %X, %d", k, a, b, got, err, want, wantErr)
	}
}

// someTime tells a time that is mostly near the slices that a meter keeps, and now and then far off.
func (p *pair) someTime(r *rand.Rand) int {
	switch r.Intn(12) {
	case 0:
		return int(r.Uint64())
	case 1:
		return []int{leastInt, -1, 0, maxTime, maxTime + 1, greatestInt}[r.Intn(6)]
	}
	oldest := p.plain.beginOf(p.plain.slices)
	return oldest - p.plain.width + r.Intn((p.plain.slices+2)*p.plain.width)
}

// someTick tells a time that the clock mostly can go to, in steps of either kind.
func (p *pair) someTick(r *rand.Rand) int {
	switch r.Intn(10) {
	case 0:
		return p.someTime(r)
	case 1:
		return p.plain.clock + r.Intn(10*p.plain.width)
	}
	return p.plain.clock - 1 + r.Intn(p.plain.width+1)
}

// someValue tells a value that mostly is one of few, so that buckets have several samples.
func someValue(r *rand.Rand) uint64 {
	switch r.Intn(8) {
	case 0:
		return r.Uint64()
	case 1:
		return []uint64{noNumber, infinity + 1, signBit | noNumber, minusNought, 1, signBit | 1}[r.Intn(6)]
	}
	return numbersInOrder[r.Intn(len(numbersInOrder))] ^ r.Uint64()>>19*uint64(r.Intn(2))
}

func (p *pair) doSomething(t *testing.T, r *rand.Rand) {
	t.Helper()
	if r.Intn(4) == 0 {
		p.tick(t, p.someTick(r))
	} else {
		p.add(t, p.someTime(r), someValue(r))
	}
}

func TestMetersByTurns(t *testing.T) {
	for seed := range int64(20) {
		r := rand.New(rand.NewSource(seed))
		var pairs []*pair
		for range 4 {
			width := []int{1, 2, 3, 10, 1000, 1000000}[r.Intn(6)]
			pairs = append(pairs, newPair(t, 1+r.Intn(8), width))
		}
		for range 200 {
			one := pairs[r.Intn(len(pairs))]
			one.doSomething(t, r)
			one.check(t)
		}
		for _, one := range pairs {
			one.check(t)
		}
	}
}

// Meters of the same arguments have nothing in common.
func TestMetersAreApart(t *testing.T) {
	first, second := newPair(t, 2, 10), newPair(t, 2, 10)
	first.add(t, 0, 5)
	second.check(t)
	second.tick(t, 15)
	first.check(t)
	second.add(t, 12, infinity)
	first.check(t)
	second.check(t)
}

// filledPair has samples in each slice that it keeps.
func filledPair(t *testing.T) *pair {
	t.Helper()
	p := newPair(t, 3, 10)
	p.tick(t, 45)
	for i, value := range numbersInOrder {
		p.add(t, 20+i%30, value)
		p.add(t, 49-i, value)
	}
	return p
}

func TestRefusedCallsChangeNothing(t *testing.T) {
	p := filledPair(t)
	p.check(t)
	for _, call := range []func() gauge.Errno{
		func() gauge.Errno { return p.real.Tick(leastInt) },
		func() gauge.Errno { return p.real.Tick(-1) },
		func() gauge.Errno { return p.real.Tick(44) },
		func() gauge.Errno { return p.real.Tick(maxTime + 1) },
		func() gauge.Errno { return p.real.Tick(greatestInt) },
		func() gauge.Errno { return p.real.Add(-1, 0) },
		func() gauge.Errno { return p.real.Add(maxTime+1, 0) },
		func() gauge.Errno { return p.real.Add(45, noNumber) },
		func() gauge.Errno { return p.real.Add(45, infinity+1) },
		func() gauge.Errno { return p.real.Add(19, 0) },
		func() gauge.Errno { return p.real.Add(50, 0) },
		func() gauge.Errno { _, err := p.real.Count(0); return err },
		func() gauge.Errno { _, err := p.real.Count(4); return err },
		func() gauge.Errno { _, err := p.real.Quantile(4, 1, 2); return err },
		func() gauge.Errno { _, err := p.real.Quantile(1, 3, 2); return err },
		func() gauge.Errno { _, err := p.real.Quantile(1, 0, 0); return err },
	} {
		if err := call(); err == gauge.OK {
			t.Errorf("a call that is to be refused was not")
		}
		p.check(t)
	}
	p.tick(t, 50)
	p.check(t)
}

// To ask changes nothing, and the same question has the same answer.
func TestAskingChangesNothing(t *testing.T) {
	p := filledPair(t)
	for range 20 {
		p.check(t)
	}
	p.tick(t, 60)
	p.check(t)
	p.add(t, 60, infinity)
	p.check(t)
}
