package gauge_test

import (
	"math"
	"testing"

	"gauge/gauge"
)

func checkRule(t *testing.T, m *gauge.Meter, r plainRule, want gauge.Errno) {
	t.Helper()
	if err := m.Rule(r.low, r.high, r.least, r.most, r.rest); err != want {
		t.Errorf("Rule(%X, %X, %d, %d, %d) = %d, want %d", r.low, r.high, r.least, r.most, r.rest, err, want)
	}
}

// setRule gives a meter a rule that may be, its bounds told as numbers.
func setRule(t *testing.T, m *gauge.Meter, low, high float64, least, most, rest int) {
	t.Helper()
	checkRule(t, m, plainRule{math.Float64bits(low), math.Float64bits(high), least, most, rest}, gauge.OK)
}

// checkWorkers asks a meter without samples, so that nothing is decided.
func checkWorkers(t *testing.T, m *gauge.Meter, want int) {
	t.Helper()
	checkDecide(t, m, 1, 1, 1, want)
}

func TestRuleTakesOnlyNumbers(t *testing.T) {
	notNumbers := []uint64{infinity + 1, infinity + 1<<45, noNumber - 1, noNumber, noNumber + 1, signBit - 1}
	numbers := []uint64{minusInfinity, signBit | 1, minusNought, 0, 1, leastUsual, greatest, infinity}
	for _, no := range notNumbers {
		for _, bad := range []uint64{no, no | signBit} {
			for _, number := range numbers {
				checkRule(t, newMeter(t, 1, 1), plainRule{bad, number, 1, 1, 0}, gauge.ErrValue)
				checkRule(t, newMeter(t, 1, 1), plainRule{number, bad, 1, 1, 0}, gauge.ErrValue)
			}
			checkRule(t, newMeter(t, 1, 1), plainRule{bad, bad, 1, 1, 0}, gauge.ErrValue)
		}
	}
}

// boundsInOrder has values of which each is above those ahead of it, but for the noughts, of which neither is above the other.
var boundsInOrder = []uint64{
	minusInfinity, signBit | greatest, signBit | 0x3FF0000000000001, signBit | 0x3FF0000000000000, signBit | leastUsual,
	signBit | (leastUsual - 1), signBit | 2, signBit | 1, minusNought, 0, 1, 2, leastUsual - 1, leastUsual,
	0x3FF0000000000000, 0x3FF0000000000001, greatest, infinity,
}

func TestRuleTakesNoLowAboveHigh(t *testing.T) {
	for i, low := range boundsInOrder {
		for k, high := range boundsInOrder {
			want := gauge.OK
			if i > k && !(low == 0 && high == minusNought) {
				want = gauge.ErrArg
			}
			checkRule(t, newMeter(t, 1, 1), plainRule{low, high, 1, 1, 0}, want)
		}
	}
}

// numbersOfRules has what stands at the edges of least, most and rest, and far off.
var numbersOfRules = []int{
	leastInt, -maxTime, -1, 0, 1, 2, 50, 99, 100, 101, maxTime - 1, maxTime, maxTime + 1, greatestInt,
}

func TestRuleTakesOnlyWorkersAndRestsInBounds(t *testing.T) {
	for _, least := range numbersOfRules {
		for _, most := range numbersOfRules {
			for _, rest := range numbersOfRules {
				want := gauge.ErrArg
				if 1 <= least && least <= most && most <= 100 && 0 <= rest && rest <= maxTime {
					want = gauge.OK
				}
				checkRule(t, newMeter(t, 1, 1), plainRule{0, 1, least, most, rest}, want)
			}
		}
	}
}

// Every least and most about their bounds, one by one.
func TestEveryLeastAndMost(t *testing.T) {
	m := newMeter(t, 1, 1)
	for least := -1; least <= 103; least++ {
		for most := -1; most <= 103; most++ {
			want := gauge.ErrArg
			if 1 <= least && least <= most && most <= 100 {
				want = gauge.OK
			}
			checkRule(t, m, plainRule{0, 1, least, most, 0}, want)
		}
	}
}

// Of several errors the answer is the one that the document names first.
func TestRuleErrors(t *testing.T) {
	for _, r := range []plainRule{
		{noNumber, 0, 0, 1, 0}, {0, noNumber, 2, 1, 0}, {noNumber, 0, 1, 101, 0}, {0, noNumber, 1, 1, -1},
		{noNumber, noNumber, leastInt, greatestInt, maxTime + 1}, {infinity, signBit | noNumber, 0, 0, 0},
	} {
		checkRule(t, newMeter(t, 1, 1), r, gauge.ErrValue)
	}
	for _, r := range []plainRule{{1, 0, 0, 0, -1}, {1, 0, 5, 2, 0}, {0, 1, 102, 101, -1}, {0, 1, 0, 101, maxTime + 1}} {
		checkRule(t, newMeter(t, 1, 1), r, gauge.ErrArg)
	}
}

// A new meter has 1 worker: what a rule makes of them is told by a decision that changes nothing.
func TestRuleSetsWorkersRight(t *testing.T) {
	for least := 1; least <= 100; least++ {
		for _, most := range []int{least, min(least+1, 100), 100} {
			m := newMeter(t, 1, 1)
			setRule(t, m, 0, 1, least, most, 0)
			checkWorkers(t, m, least)
		}
	}
}

func TestRuleAfterRule(t *testing.T) {
	m := newMeter(t, 1, 1)
	for _, c := range []struct{ least, most, want int }{
		{1, 1, 1}, {1, 100, 1}, {4, 9, 4}, {1, 9, 4}, {4, 4, 4}, {1, 4, 4}, {1, 3, 3}, {3, 3, 3}, {2, 5, 3},
		{100, 100, 100}, {1, 100, 100}, {1, 99, 99}, {98, 100, 99}, {2, 2, 2}, {1, 1, 1},
	} {
		setRule(t, m, 0, 1, c.least, c.most, 0)
		checkWorkers(t, m, c.want)
		checkWorkers(t, m, c.want)
	}
}

// Each part of a rule goes with it: of the old one nothing stays.
func TestNewRuleTakesTheOldOnesPlace(t *testing.T) {
	m := newMeter(t, 1, 10)
	addNumbers(t, m, 0, 5)
	setRule(t, m, 1, 2, 1, 9, 0)
	checkDecide(t, m, 1, 1, 1, 2)
	setRule(t, m, 1, 5, 1, 9, 0) // high
	checkDecide(t, m, 1, 1, 1, 2)
	setRule(t, m, 6, 7, 1, 9, 0) // low
	checkDecide(t, m, 1, 1, 1, 1)
	setRule(t, m, 1, 2, 1, 2, 0) // most
	checkDecide(t, m, 1, 1, 1, 2)
	checkDecide(t, m, 1, 1, 1, 2)
	setRule(t, m, 6, 7, 2, 9, 0) // least
	checkDecide(t, m, 1, 1, 1, 2)
	setRule(t, m, 6, 7, 1, 9, 1) // rest
	checkDecide(t, m, 1, 1, 1, 2)
	checkTick(t, m, 1, gauge.OK)
	checkDecide(t, m, 1, 1, 1, 1)
}

func TestOldRuleStandsBehindARefusedOne(t *testing.T) {
	for _, refused := range []plainRule{
		{noNumber, 0, 1, 1, 0}, {0, noNumber, 50, 60, 0}, {2, 1, 1, 1, 0}, {2, 1, 50, 60, 0},
		{0, 1, 0, 1, 0}, {0, 1, 60, 50, 0}, {0, 1, 50, 101, 0}, {0, 1, 1, 1, -1}, {0, 1, 50, 60, maxTime + 1},
	} {
		m := newMeter(t, 1, 10)
		addNumbers(t, m, 0, 5)
		setRule(t, m, 1, 2, 3, 5, 2)
		if err := m.Rule(refused.low, refused.high, refused.least, refused.most, refused.rest); err == gauge.OK {
			t.Errorf("the rule %v was not refused", refused)
		}
		checkDecide(t, m, 1, 1, 1, 4)
		checkTick(t, m, 1, gauge.OK)
		checkDecide(t, m, 1, 1, 1, 4)
		checkTick(t, m, 2, gauge.OK)
		checkDecide(t, m, 1, 1, 1, 5)
		checkTick(t, m, 4, gauge.OK)
		checkDecide(t, m, 1, 1, 1, 5)
	}
}

// A refused rule is none: the meter stays without.
func TestRefusedFirstRule(t *testing.T) {
	m := newMeter(t, 1, 10)
	addNumbers(t, m, 0, 5)
	for _, refused := range []plainRule{{noNumber, 0, 9, 9, 0}, {2, 1, 9, 9, 0}, {1, 2, 0, 9, 0}, {1, 2, 9, 101, 0}, {1, 2, 9, 9, -1}} {
		if err := m.Rule(refused.low, refused.high, refused.least, refused.most, refused.rest); err == gauge.OK {
			t.Errorf("the rule %v was not refused", refused)
		}
		checkNoDecision(t, m, 1, 1, 1)
	}
	setRule(t, m, 1, 9, 1, 9, 0)
	checkDecide(t, m, 1, 1, 1, 1)
}

// A rule says nothing of samples, and to set it moves no clock.
func TestRuleLeavesSamplesAndClock(t *testing.T) {
	m := filledMeter(t, 3, 10)
	for _, r := range []plainRule{{0, 1, 1, 1, 0}, {minusInfinity, infinity, 100, 100, maxTime}} {
		checkRule(t, m, r, gauge.OK)
		checkCounts(t, m, 1, 3, 7)
		checkQuantile(t, m, 3, 1, 1, math.Float64bits(2))
		checkTick(t, m, 19, gauge.ErrArg)
		checkTick(t, m, 20, gauge.OK)
	}
}
