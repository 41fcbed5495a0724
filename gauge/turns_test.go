package gauge_test

// P1, P2, P6, P7 and P8 together: meters by turns, each held against its plain one, with calls in between that are refused.

import (
	"math/rand"
	"testing"

	"gauge/gauge"
)

// pair is a meter and the plain one of the same arguments.
type pair struct {
	real  *gauge.Meter
	plain plainMeter
}

func newPair(t *testing.T, slices, width int) *pair {
	t.Helper()
	return &pair{newMeter(t, slices, width), newPlain(slices, width)}
}

func (p *pair) tick(t *testing.T, at int) {
	t.Helper()
	checkTick(t, p.real, at, p.plain.tick(at))
}

func (p *pair) add(t *testing.T, at int, value uint64) {
	t.Helper()
	checkAdd(t, p.real, at, value, p.plain.add(at, value))
}

func (p *pair) rule(t *testing.T, r plainRule) {
	t.Helper()
	checkRule(t, p.real, r, p.plain.rule(r))
}

func (p *pair) decide(t *testing.T, k, a, b int) {
	t.Helper()
	want, wantErr := p.plain.decide(k, a, b)
	if got, err := p.real.Decide(k, a, b); got != want || err != wantErr {
		t.Fatalf("Decide(%d, %d, %d) = %d, %d; want %d, %d", k, a, b, got, err, want, wantErr)
	}
}

// check holds all that can be told of the two, without a change, against each other.
func (p *pair) check(t *testing.T) {
	t.Helper()
	for k := range p.plain.slices + 2 {
		want, wantErr := p.plain.count(k)
		if got, err := p.real.Count(k); got != want || err != wantErr {
			t.Fatalf("Count(%d) = %d, %d; want %d, %d", k, got, err, want, wantErr)
		}
		for _, part := range [][2]int{{0, 1}, {1, 10}, {1, 3}, {1, 2}, {9, 10}, {999, 1000}, {1, 1}, {2, 1}} {
			p.checkPart(t, k, part[0], part[1])
		}
	}
	p.tick(t, p.plain.clock-1)
	p.tick(t, maxTime+1)
	p.tick(t, p.plain.clock)
	p.add(t, p.plain.beginOf(p.plain.slices)-1, 0)
	p.add(t, p.plain.beginOf(1)+p.plain.width, 0)
	p.rule(t, plainRule{1, 0, 1, 100, 0})
	p.rule(t, plainRule{0, noNumber, 1, 100, 0})
	p.decide(t, 0, 1, 2)
	p.decide(t, 1, 3, 2)
}

func (p *pair) checkPart(t *testing.T, k, a, b int) {
	t.Helper()
	want, wantErr := p.plain.quantile(k, a, b)
	if got, err := p.real.Quantile(k, a, b); got != want || err != wantErr {
		t.Fatalf("Quantile(%d, %d, %d) = %X, %d; want %X, %d", k, a, b, got, err, want, wantErr)
	}
}

// someTime tells a time that is mostly near the slices that a meter keeps, and now and then far off.
func (p *pair) someTime(r *rand.Rand) int {
	switch r.Intn(12) {
	case 0:
		return int(r.Uint64())
	case 1:
		return []int{leastInt, -1, 0, maxTime, maxTime + 1, greatestInt}[r.Intn(6)]
	}
	oldest := p.plain.beginOf(p.plain.slices)
	return oldest - p.plain.width + r.Intn((p.plain.slices+2)*p.plain.width)
}

// someTick tells a time that the clock mostly can go to, in steps of either kind.
func (p *pair) someTick(r *rand.Rand) int {
	switch r.Intn(10) {
	case 0:
		return p.someTime(r)
	case 1:
		return p.plain.clock + r.Intn(10*p.plain.width)
	}
	return p.plain.clock - 1 + r.Intn(p.plain.width+1)
}

// someValue tells a value that mostly is one of few, so that buckets have several samples.
func someValue(r *rand.Rand) uint64 {
	switch r.Intn(8) {
	case 0:
		return r.Uint64()
	case 1:
		return []uint64{noNumber, infinity + 1, signBit | noNumber, minusNought, 1, signBit | 1}[r.Intn(6)]
	}
	return numbersInOrder[r.Intn(len(numbersInOrder))] ^ r.Uint64()>>19*uint64(r.Intn(2))
}

// someRule tells a rule that mostly may be, with both bounds among the values that samples mostly have, and near to one another, so that much is decided.
func (p *pair) someRule(r *rand.Rand) plainRule {
	low := r.Intn(len(numbersInOrder))
	high := min(low+r.Intn(4), len(numbersInOrder)-1)
	if r.Intn(16) == 0 {
		low, high = high, low
	}
	rule := plainRule{numbersInOrder[low], numbersInOrder[high], 1 + r.Intn(4), 2 + r.Intn(6), r.Intn(2 * p.plain.width)}
	switch r.Intn(16) {
	case 0:
		rule.low, rule.high = someValue(r), someValue(r)
	case 1:
		rule.least, rule.most = r.Intn(103), r.Intn(103)
	case 2:
		rule.rest = []int{leastInt, -1, 0, maxTime, maxTime + 1, greatestInt}[r.Intn(6)]
	}
	return rule
}

func (p *pair) doSomething(t *testing.T, r *rand.Rand) {
	t.Helper()
	switch r.Intn(12) {
	case 0, 1:
		p.tick(t, p.someTick(r))
	case 2:
		p.rule(t, p.someRule(r))
	case 3, 4, 5, 6:
		p.decide(t, 1+r.Intn(p.plain.slices), r.Intn(11), 10)
	default:
		p.add(t, p.someTime(r), someValue(r))
	}
}

func TestMetersByTurns(t *testing.T) {
	for seed := range int64(20) {
		r := rand.New(rand.NewSource(seed))
		var pairs []*pair
		for range 4 {
			width := []int{1, 2, 3, 10, 1000, 1000000}[r.Intn(6)]
			pairs = append(pairs, newPair(t, 1+r.Intn(8), width))
		}
		for range 300 {
			one := pairs[r.Intn(len(pairs))]
			one.doSomething(t, r)
			one.check(t)
		}
		for _, one := range pairs {
			one.check(t)
		}
	}
}

// Longer than the above, and with decisions alone held against each other.
func TestDecisionsByTurns(t *testing.T) {
	for seed := range int64(60) {
		r := rand.New(rand.NewSource(seed))
		one, other := newPair(t, 1+r.Intn(4), 1+r.Intn(20)), newPair(t, 1+r.Intn(4), 1+r.Intn(20))
		for range 300 {
			one.doSomething(t, r)
			other.doSomething(t, r)
			one.decide(t, r.Intn(6), 1, 2)
		}
	}
}

// Meters of the same arguments have nothing in common.
func TestMetersAreApart(t *testing.T) {
	first, second := newPair(t, 2, 10), newPair(t, 2, 10)
	first.add(t, 0, 5)
	second.check(t)
	second.tick(t, 15)
	first.check(t)
	second.add(t, 12, infinity)
	first.check(t)
	second.check(t)
	first.rule(t, plainRule{minusInfinity, 0, 3, 5, 0})
	second.decide(t, 1, 1, 1)
	second.rule(t, plainRule{minusInfinity, 0, 1, 5, 10})
	second.decide(t, 1, 1, 1)
	first.decide(t, 1, 1, 1)
	first.add(t, 0, infinity)
	first.decide(t, 1, 1, 1)
	first.decide(t, 1, 1, 1)
	second.decide(t, 1, 1, 1)
}

// filledPair has samples in each slice that it keeps, and a rule by which it changed its workers just now.
func filledPair(t *testing.T) *pair {
	t.Helper()
	p := newPair(t, 3, 10)
	p.rule(t, plainRule{minusInfinity, infinity, 1, 2, 0})
	p.tick(t, 45)
	p.rule(t, plainRule{minusNought, 0, 4, 6, 7})
	for i, value := range numbersInOrder {
		p.add(t, 20+i%30, value)
		p.add(t, 49-i, value)
	}
	p.decide(t, 3, 1, 1)
	return p
}

// goOn makes the decisions by which a filled pair's rule, workers and last change are told: 5 up to the time 51, 6 at 52, and down to 4 again.
func (p *pair) goOn(t *testing.T) {
	t.Helper()
	p.decide(t, 3, 1, 1)
	for _, step := range []struct{ at, a int }{{51, 1}, {51, 0}, {52, 1}, {52, 0}, {58, 0}, {59, 1}, {59, 0}, {65, 0}, {66, 0}, {73, 0}} {
		p.tick(t, step.at)
		p.decide(t, 3, step.a, 1)
		p.check(t)
	}
}

func TestRefusedCallsChangeNothing(t *testing.T) {
	for i, call := range []func(m *gauge.Meter) gauge.Errno{
		func(m *gauge.Meter) gauge.Errno { return m.Tick(leastInt) },
		func(m *gauge.Meter) gauge.Errno { return m.Tick(-1) },
		func(m *gauge.Meter) gauge.Errno { return m.Tick(44) },
		func(m *gauge.Meter) gauge.Errno { return m.Tick(maxTime + 1) },
		func(m *gauge.Meter) gauge.Errno { return m.Tick(greatestInt) },
		func(m *gauge.Meter) gauge.Errno { return m.Add(-1, 0) },
		func(m *gauge.Meter) gauge.Errno { return m.Add(maxTime+1, 0) },
		func(m *gauge.Meter) gauge.Errno { return m.Add(45, noNumber) },
		func(m *gauge.Meter) gauge.Errno { return m.Add(45, infinity+1) },
		func(m *gauge.Meter) gauge.Errno { return m.Add(19, 0) },
		func(m *gauge.Meter) gauge.Errno { return m.Add(50, 0) },
		func(m *gauge.Meter) gauge.Errno { _, err := m.Count(0); return err },
		func(m *gauge.Meter) gauge.Errno { _, err := m.Count(4); return err },
		func(m *gauge.Meter) gauge.Errno { _, err := m.Quantile(4, 1, 2); return err },
		func(m *gauge.Meter) gauge.Errno { _, err := m.Quantile(1, 3, 2); return err },
		func(m *gauge.Meter) gauge.Errno { _, err := m.Quantile(1, 0, 0); return err },
		func(m *gauge.Meter) gauge.Errno { return m.Rule(noNumber, 0, 1, 2, 0) },
		func(m *gauge.Meter) gauge.Errno { return m.Rule(0, noNumber, 7, 8, 0) },
		func(m *gauge.Meter) gauge.Errno { return m.Rule(1, 0, 1, 2, 0) },
		func(m *gauge.Meter) gauge.Errno { return m.Rule(1, 0, 7, 8, 0) },
		func(m *gauge.Meter) gauge.Errno { return m.Rule(0, 1, 0, 2, 0) },
		func(m *gauge.Meter) gauge.Errno { return m.Rule(0, 1, 8, 7, 0) },
		func(m *gauge.Meter) gauge.Errno { return m.Rule(0, 1, 7, 101, 0) },
		func(m *gauge.Meter) gauge.Errno { return m.Rule(0, 1, 1, 2, -1) },
		func(m *gauge.Meter) gauge.Errno { return m.Rule(0, 1, 7, 8, maxTime+1) },
		func(m *gauge.Meter) gauge.Errno { _, err := m.Decide(0, 1, 1); return err },
		func(m *gauge.Meter) gauge.Errno { _, err := m.Decide(4, 1, 1); return err },
		func(m *gauge.Meter) gauge.Errno { _, err := m.Decide(3, 2, 1); return err },
		func(m *gauge.Meter) gauge.Errno { _, err := m.Decide(3, -1, 1); return err },
		func(m *gauge.Meter) gauge.Errno { _, err := m.Decide(3, 0, 0); return err },
		func(m *gauge.Meter) gauge.Errno { _, err := m.Decide(3, 0, 1001); return err },
	} {
		p := filledPair(t)
		if err := call(p.real); err == gauge.OK {
			t.Errorf("call %d is to be refused, and was not", i)
		}
		p.goOn(t)
	}
}

// To ask changes nothing, and the same question has the same answer.
func TestAskingChangesNothing(t *testing.T) {
	p := filledPair(t)
	for range 20 {
		p.check(t)
	}
	p.goOn(t)
	p.check(t)
	p.add(t, 70, infinity)
	p.check(t)
}
