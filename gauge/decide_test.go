package gauge_test

import (
	"math"
	"testing"

	"gauge/gauge"
)

func checkDecide(t *testing.T, m *gauge.Meter, k, a, b, want int) {
	t.Helper()
	if got, err := m.Decide(k, a, b); got != want || err != gauge.OK {
		t.Errorf("Decide(%d, %d, %d) = %d, %d; want %d", k, a, b, got, err, want)
	}
}

func checkNoDecision(t *testing.T, m *gauge.Meter, k, a, b int) {
	t.Helper()
	if got, err := m.Decide(k, a, b); got != 0 || err != gauge.ErrArg {
		t.Errorf("Decide(%d, %d, %d) = %d, %d; want ErrArg", k, a, b, got, err)
	}
}

func TestDecideExample(t *testing.T) {
	m := newMeter(t, 2, 10)
	addNumbers(t, m, 0, 1.5)
	checkTick(t, m, 15, gauge.OK)
	addNumbers(t, m, 12, 1.503)
	checkTick(t, m, 20, gauge.OK)
	setRule(t, m, 1, 2, 1, 5, 10)
	addNumbers(t, m, 21, 3)
	checkDecide(t, m, 1, 1, 1, 2)
	checkDecide(t, m, 1, 1, 1, 2)
	checkTick(t, m, 29, gauge.OK)
	checkDecide(t, m, 1, 1, 1, 2)
	checkTick(t, m, 30, gauge.OK)
	checkDecide(t, m, 1, 1, 1, 2)
	checkDecide(t, m, 2, 1, 1, 3)
}

func TestNewMeterHasNoRule(t *testing.T) {
	empty, full := newMeter(t, 3, 10), filledMeter(t, 3, 10)
	for _, m := range []*gauge.Meter{empty, full} {
		for k := 0; k <= 4; k++ {
			checkNoDecision(t, m, k, 1, 2)
		}
		checkNoDecision(t, m, 1, 2, 1)
		checkNoDecision(t, m, 1, 0, 0)
	}
}

func TestNewMeterHasOneWorker(t *testing.T) {
	for slices := 1; slices <= 8; slices++ {
		m := newMeter(t, slices, 10)
		setRule(t, m, 1, 2, 1, 100, 0)
		checkDecide(t, m, slices, 1, 1, 1)
		addNumbers(t, m, 0, 0.5)
		checkDecide(t, m, slices, 1, 1, 1)
		addNumbers(t, m, 0, 3)
		checkDecide(t, m, slices, 1, 1, 2)
	}
}

func TestDecideArguments(t *testing.T) {
	empty, full := newMeter(t, 3, 10), filledMeter(t, 3, 10)
	setRule(t, empty, 0, 9, 4, 9, 0)
	setRule(t, full, 0, 9, 4, 9, 0)
	numbers := []int{leastInt, -1000, -1, 0, 1, 2, 3, 4, 500, 999, 1000, 1001, maxTime, greatestInt}
	for _, k := range numbers {
		for _, a := range numbers {
			for _, b := range numbers {
				if 1 <= k && k <= 3 && 1 <= b && b <= 1000 && 0 <= a && a <= b {
					checkDecide(t, empty, k, a, b, 4)
					checkDecide(t, full, k, a, b, 4)
					continue
				}
				checkNoDecision(t, empty, k, a, b)
				checkNoDecision(t, full, k, a, b)
			}
		}
	}
}

// The arguments are looked at ahead of a rest, and ahead of whether there are samples.
func TestDecideArgumentsWithinARest(t *testing.T) {
	m := newMeter(t, 2, 10)
	setRule(t, m, 1, 2, 1, 5, 100)
	addNumbers(t, m, 0, 3)
	checkDecide(t, m, 1, 1, 1, 2)
	for _, c := range [][3]int{{0, 1, 1}, {3, 1, 1}, {1, 2, 1}, {1, -1, 1}, {1, 0, 0}, {1, 0, 1001}} {
		checkNoDecision(t, m, c[0], c[1], c[2])
	}
	checkTick(t, m, 50, gauge.OK)
	for _, c := range [][3]int{{0, 1, 1}, {3, 1, 1}, {1, 2, 1}, {1, -1, 1}, {1, 0, 0}, {1, 0, 1001}} {
		checkNoDecision(t, m, c[0], c[1], c[2])
	}
	checkDecide(t, m, 2, 1, 1, 2)
}

// Without samples there are as many workers as there were, whatever the bounds: also where the bucket 0 would change them.
func TestDecideOnNothing(t *testing.T) {
	for _, bounds := range [][2]float64{{-2, -1}, {1, 2}, {0, 0}, {math.Inf(-1), math.Inf(-1)}, {math.Inf(1), math.Inf(1)}} {
		m := newMeter(t, 4, 10)
		setRule(t, m, 0, 0, 5, 5, 0)
		setRule(t, m, bounds[0], bounds[1], 1, 9, 0)
		for k := 1; k <= 4; k++ {
			checkDecide(t, m, k, 0, 1, 5)
			checkDecide(t, m, k, 1, 1, 5)
		}
	}
}

// A decision on nothing is no change: no rest begins with it.
func TestDecideOnSlicesWithoutSamples(t *testing.T) {
	m := newMeter(t, 3, 10)
	setRule(t, m, 1, 2, 1, 9, 10)
	addNumbers(t, m, 0, 3)
	checkTick(t, m, 20, gauge.OK)
	checkDecide(t, m, 1, 1, 1, 1)
	checkDecide(t, m, 2, 1, 1, 1)
	checkDecide(t, m, 3, 1, 1, 2)
	checkTick(t, m, 30, gauge.OK)
	checkDecide(t, m, 3, 1, 1, 2)
	addNumbers(t, m, 30, 3)
	checkDecide(t, m, 1, 1, 1, 3)
}

func TestDecideAboutTheBounds(t *testing.T) {
	const part = 1.0 / 128
	for _, c := range []struct {
		quantile, low, high float64
		change              int
	}{
		{3, 1, 2, 1}, {2 + 2*part, 1, 2, 1}, {2, 1, 2, 0}, {1.5, 1, 2, 0}, {1, 1, 2, 0}, {1 - part, 1, 2, -1}, {0, 1, 2, -1}, {-3, 1, 2, -1},
		{-1, -2, -1, 0}, {-1 + part, -2, -1, 1}, {-1.5, -2, -1, 0}, {-2, -2, -1, 0}, {-2 - 2*part, -2, -1, -1}, {0, -2, -1, 1},
		{5, 5, 5, 0}, {6, 5, 5, 1}, {4, 5, 5, -1},
		{math.Inf(1), 1, 2, 1}, {math.Inf(-1), 1, 2, -1},
		{math.Inf(1), 1, math.Inf(1), 0}, {math.Inf(1), math.Inf(1), math.Inf(1), 0}, {math.MaxFloat64, math.Inf(1), math.Inf(1), -1},
		{math.Inf(-1), math.Inf(-1), 2, 0}, {math.Inf(-1), math.Inf(-1), math.Inf(-1), 0}, {-math.MaxFloat64, math.Inf(-1), math.Inf(-1), 1},
		{5, math.Inf(-1), math.Inf(1), 0}, {math.Inf(1), math.Inf(-1), math.Inf(1), 0}, {math.Inf(-1), math.Inf(-1), math.Inf(1), 0},
	} {
		m := newMeter(t, 1, 1)
		setRule(t, m, 0, 0, 5, 5, 0)
		setRule(t, m, c.low, c.high, 1, 9, 0)
		addNumbers(t, m, 0, c.quantile)
		if got, err := m.Decide(1, 1, 1); got != 5+c.change || err != gauge.OK {
			t.Errorf("of %v between %v and %v Decide tells %d, %d; want %d", c.quantile, c.low, c.high, got, err, 5+c.change)
		}
	}
}

// Neither nought is above the other, and a bucket of nought is neither above nor below one.
func TestDecideAboutNought(t *testing.T) {
	noughts := []uint64{0, minusNought}
	for _, low := range noughts {
		for _, high := range noughts {
			for _, c := range []struct {
				value uint64
				want  int
			}{
				{0, 5}, {minusNought, 5}, {1, 5}, {signBit | 1, 5}, {leastUsual - 1, 5}, {signBit | (leastUsual - 1), 5},
				{leastUsual, 6}, {signBit | leastUsual, 4}, {infinity, 6}, {minusInfinity, 4},
			} {
				m := newMeter(t, 1, 1)
				checkRule(t, m, plainRule{low, high, 5, 9, 0}, gauge.OK)
				checkRule(t, m, plainRule{low, high, 1, 9, 0}, gauge.OK)
				checkAdd(t, m, 0, c.value, gauge.OK)
				checkDecide(t, m, 1, 1, 1, c.want)
			}
		}
	}
}

// What is held against the bounds is the bucket, not the sample; the bounds are taken as they are, to the last bit.
func TestDecideGoesByBuckets(t *testing.T) {
	one := math.Float64bits(1)
	for _, c := range []struct {
		value, low, high uint64
		want             int
	}{
		{one + 1, one, one, 5}, {one + 1<<45 - 1, one, one, 5}, {one + 1<<45, one, one, 6},
		{one + 1, one + 1, one + 1, 4}, {one, one - 1, one - 1, 6}, {one - 1, one - 1, one, 4},
		{one + 1<<45, one, one + 1<<45 - 1, 6}, {one + 1<<45, one + 1<<45 + 1, infinity, 4},
		{signBit | (one + 1), signBit | one, infinity, 5}, {signBit | (one + 1), minusInfinity, signBit | (one + 1), 6},
		{1, 1, 1, 4}, {signBit | 1, signBit | 1, signBit | 1, 6}, {leastUsual - 1, leastUsual - 1, infinity, 4},
	} {
		m := newMeter(t, 1, 1)
		checkRule(t, m, plainRule{0, 0, 5, 9, 0}, gauge.OK)
		checkRule(t, m, plainRule{c.low, c.high, 1, 9, 0}, gauge.OK)
		checkAdd(t, m, 0, c.value, gauge.OK)
		checkDecide(t, m, 1, 1, 1, c.want)
	}
}

// Of samples far below and far above the bounds a part decides, over as many slices as are asked for.
func TestDecideGoesByParts(t *testing.T) {
	for _, c := range []struct{ k, a, b, want int }{
		{1, 0, 1, 6}, {1, 1, 1, 6}, {2, 0, 1, 4}, {2, 1, 2, 4}, {2, 501, 1000, 6}, {2, 1, 1, 6},
		{3, 0, 1, 4}, {3, 1, 3, 4}, {3, 334, 1000, 5}, {3, 2, 3, 5}, {3, 667, 1000, 6}, {3, 1, 1, 6},
	} {
		m := newMeter(t, 3, 10)
		setRule(t, m, 0, 0, 5, 5, 0)
		setRule(t, m, 10, 20, 1, 9, 0)
		addNumbers(t, m, 0, 15)
		checkTick(t, m, 10, gauge.OK)
		addNumbers(t, m, 10, 1)
		checkTick(t, m, 20, gauge.OK)
		addNumbers(t, m, 20, 99)
		checkDecide(t, m, c.k, c.a, c.b, c.want)
	}
}

func TestDecideStaysWithinLeastAndMost(t *testing.T) {
	for _, c := range []struct{ least, most int }{{1, 1}, {1, 2}, {2, 5}, {5, 5}, {99, 100}, {100, 100}, {1, 100}} {
		m := newMeter(t, 2, 10)
		setRule(t, m, 1, 2, c.least, c.most, 0)
		addNumbers(t, m, 0, 3)
		for workers := c.least + 1; workers <= c.most; workers++ {
			checkDecide(t, m, 1, 1, 1, workers)
		}
		checkDecide(t, m, 1, 1, 1, c.most)
		checkDecide(t, m, 1, 1, 1, c.most)
		checkTick(t, m, 10, gauge.OK)
		addNumbers(t, m, 10, 0)
		for workers := c.most - 1; workers >= c.least; workers-- {
			checkDecide(t, m, 1, 1, 1, workers)
		}
		checkDecide(t, m, 1, 1, 1, c.least)
		checkDecide(t, m, 1, 1, 1, c.least)
	}
}

// ruledMeter has one slice, a long one, with a sample above high, and the workers that are told.
func ruledMeter(t *testing.T, workers, rest int) *gauge.Meter {
	t.Helper()
	m := newMeter(t, 1, 1000000)
	setRule(t, m, 1, 2, workers, workers, rest)
	setRule(t, m, 1, 2, 1, 100, rest)
	addNumbers(t, m, 0, 3)
	return m
}

// No rest holds back the first change, wherever the clock is.
func TestFirstChangeHasNoRestAhead(t *testing.T) {
	for _, rest := range []int{0, 1, 10, 1000, maxTime - 1, maxTime} {
		for _, at := range []int{0, 1, 9, 10, 11} {
			m := ruledMeter(t, 5, rest)
			checkTick(t, m, at, gauge.OK)
			checkDecide(t, m, 1, 1, 1, 6)
		}
	}
}

func TestRestGoesByOnTheClock(t *testing.T) {
	for _, rest := range []int{1, 2, 10, 1000, 99999} {
		m := ruledMeter(t, 5, rest)
		for workers := 6; workers <= 12; workers++ {
			at := 17 + (workers-6)*rest
			checkTick(t, m, at, gauge.OK)
			checkDecide(t, m, 1, 1, 1, workers)
			checkDecide(t, m, 1, 1, 1, workers)
			checkTick(t, m, at+rest-1, gauge.OK)
			checkDecide(t, m, 1, 1, 1, workers)
		}
	}
}

func TestWithoutRestEveryDecisionCanChange(t *testing.T) {
	m := ruledMeter(t, 5, 0)
	for workers := 6; workers <= 20; workers++ {
		checkDecide(t, m, 1, 1, 1, workers)
	}
}

func TestTheLongestRest(t *testing.T) {
	for _, c := range []struct{ at, rest, want int }{
		{0, maxTime, 7}, {1, maxTime, 6}, {1, maxTime - 1, 7}, {2, maxTime - 1, 6}, {maxTime, 0, 7}, {maxTime, 1, 6},
	} {
		m := newMeter(t, 1, 1000000)
		setRule(t, m, 1, 2, 5, 9, c.rest)
		checkTick(t, m, c.at, gauge.OK)
		addNumbers(t, m, c.at, 3)
		checkDecide(t, m, 1, 1, 1, 6)
		checkTick(t, m, maxTime, gauge.OK)
		addNumbers(t, m, maxTime, 3)
		checkDecide(t, m, 1, 1, 1, c.want)
	}
}

// A rest holds back both ways, and begins with a change either way.
func TestRestBothWays(t *testing.T) {
	m := newMeter(t, 1, 1)
	setRule(t, m, 1, 2, 5, 5, 10)
	setRule(t, m, 1, 2, 1, 9, 10)
	for _, c := range []struct {
		at     int
		number float64
		want   int
	}{
		{3, 0, 4}, {4, 0, 4}, {12, 3, 4}, {13, 3, 5}, {14, 0, 5}, {22, 0, 5}, {23, 0, 4}, {32, 0, 4}, {33, 0, 3}, {60, 3, 4},
	} {
		checkTick(t, m, c.at, gauge.OK)
		addNumbers(t, m, c.at, c.number)
		checkDecide(t, m, 1, 1, 1, c.want)
	}
}

// A rest begins only with a change: not where the quantile is within its bounds, nor at least or at most, nor within a rest.
func TestDecisionsWithoutChangeBeginNoRest(t *testing.T) {
	m := newMeter(t, 1, 1)
	setRule(t, m, 1, 2, 5, 6, 10)
	for _, c := range []struct {
		at     int
		number float64
		want   int
	}{
		{0, 1.5, 5}, {1, 0, 5}, {2, 3, 6}, {11, 0, 6}, {12, 1.5, 6}, {13, 3, 6}, {14, 0, 5}, {24, 0, 5}, {25, 3, 6},
	} {
		checkTick(t, m, c.at, gauge.OK)
		addNumbers(t, m, c.at, c.number)
		checkDecide(t, m, 1, 1, 1, c.want)
	}
}

// What a rule makes of the workers is no change of Decide's: it neither begins a rest nor ends one.
func TestChangesOfRulesBeginNoRest(t *testing.T) {
	m := ruledMeter(t, 1, 10)
	checkTick(t, m, 20, gauge.OK)
	setRule(t, m, 1, 2, 4, 9, 10)
	checkDecide(t, m, 1, 1, 1, 5)
	checkTick(t, m, 25, gauge.OK)
	setRule(t, m, 1, 2, 7, 9, 10)
	checkDecide(t, m, 1, 1, 1, 7)
	setRule(t, m, 1, 2, 1, 3, 10)
	checkDecide(t, m, 1, 1, 1, 3)
	setRule(t, m, 1, 2, 1, 9, 10)
	checkTick(t, m, 29, gauge.OK)
	checkDecide(t, m, 1, 1, 1, 3)
	checkTick(t, m, 30, gauge.OK)
	checkDecide(t, m, 1, 1, 1, 4)
}

// A new rule's rest goes from the last change on, also from one that an old rule led to.
func TestRestOfANewRule(t *testing.T) {
	m := ruledMeter(t, 5, 10)
	checkDecide(t, m, 1, 1, 1, 6)
	setRule(t, m, 1, 2, 1, 100, 3)
	checkTick(t, m, 2, gauge.OK)
	checkDecide(t, m, 1, 1, 1, 6)
	checkTick(t, m, 3, gauge.OK)
	checkDecide(t, m, 1, 1, 1, 7)
	setRule(t, m, 1, 2, 1, 100, 20)
	checkTick(t, m, 22, gauge.OK)
	checkDecide(t, m, 1, 1, 1, 7)
	checkTick(t, m, 23, gauge.OK)
	checkDecide(t, m, 1, 1, 1, 8)
	setRule(t, m, 1, 2, 1, 100, 0)
	checkDecide(t, m, 1, 1, 1, 9)
}

// Samples come and go, the workers stay as long as nothing is decided.
func TestWorkersStayOverTicks(t *testing.T) {
	m := newMeter(t, 2, 10)
	setRule(t, m, 1, 2, 3, 9, 0)
	addNumbers(t, m, 0, 3)
	checkDecide(t, m, 1, 1, 1, 4)
	for at := 20; at <= 200; at += 20 {
		checkTick(t, m, at, gauge.OK)
		checkDecide(t, m, 2, 1, 1, 4)
	}
	addNumbers(t, m, 200, 3)
	checkDecide(t, m, 2, 1, 1, 5)
}

// A decision leaves the samples and the clock as they are.
func TestDecideLeavesSamplesAndClock(t *testing.T) {
	m := filledMeter(t, 3, 10)
	setRule(t, m, 5, 6, 1, 9, 0)
	for range 5 {
		checkDecide(t, m, 3, 1, 1, 1)
		checkCounts(t, m, 1, 3, 7)
		checkQuantile(t, m, 3, 1, 1, math.Float64bits(2))
		checkTick(t, m, 19, gauge.ErrArg)
		checkAdd(t, m, 30, 0, gauge.ErrSoon)
	}
}
