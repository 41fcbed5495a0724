package gauge_test

import (
	"math"
	"testing"

	"gauge/gauge"
)

const (
	leastInt    = math.MinInt
	greatestInt = math.MaxInt
)

func newMeter(t *testing.T, slices, width int) *gauge.Meter {
	t.Helper()
	m, err := gauge.New(slices, width)
	if m == nil || err != gauge.OK {
		t.Fatalf("New(%d, %d) = %v, %d; want a meter", slices, width, m, err)
	}
	return m
}

func checkTick(t *testing.T, m *gauge.Meter, at int, want gauge.Errno) {
	t.Helper()
	if err := m.Tick(at); err != want {
		t.Errorf("Tick(%d) = %d, want %d", at, err, want)
	}
}

func checkAdd(t *testing.T, m *gauge.Meter, at int, value uint64, want gauge.Errno) {
	t.Helper()
	if err := m.Add(at, value); err != want {
		t.Errorf("Add(%d, %X) = %d, want %d", at, value, err, want)
	}
}

// checkCounts checks how many samples the last 1, 2, .. slices have.
func checkCounts(t *testing.T, m *gauge.Meter, want ...int) {
	t.Helper()
	for i, n := range want {
		if got, err := m.Count(i + 1); got != n || err != gauge.OK {
			t.Errorf("Count(%d) = %d, %d; want %d", i+1, got, err, n)
		}
	}
}

func checkQuantile(t *testing.T, m *gauge.Meter, k, a, b int, want uint64) {
	t.Helper()
	if got, err := m.Quantile(k, a, b); got != want || err != gauge.OK {
		t.Errorf("Quantile(%d, %d, %d) = %X, %d; want %X", k, a, b, got, err, want)
	}
}

// addNumbers adds numbers at one time.
func addNumbers(t *testing.T, m *gauge.Meter, at int, numbers ...float64) {
	t.Helper()
	for _, number := range numbers {
		checkAdd(t, m, at, math.Float64bits(number), gauge.OK)
	}
}

func TestMeterExample(t *testing.T) {
	m := newMeter(t, 2, 10)
	addNumbers(t, m, 0, 1.5)
	checkAdd(t, m, 10, math.Float64bits(1.5), gauge.ErrSoon)
	checkTick(t, m, 15, gauge.OK)
	addNumbers(t, m, 12, 1.503)
	checkCounts(t, m, 1, 2)
	checkQuantile(t, m, 2, 1, 2, math.Float64bits(1.5))
	checkQuantile(t, m, 1, 1, 2, math.Float64bits(1.5))
	checkTick(t, m, 20, gauge.OK)
	checkCounts(t, m, 0, 1)
	checkAdd(t, m, 9, math.Float64bits(1.5), gauge.ErrOld)
}

func TestNewTakesOnlySlicesAndWidthsInBounds(t *testing.T) {
	numbers := []int{leastInt, -8, -1, 0, 1, 2, 7, 8, 9, 10, 999999, 1000000, 1000001, maxTime, greatestInt}
	for _, slices := range numbers {
		for _, width := range numbers {
			m, err := gauge.New(slices, width)
			good := 1 <= slices && slices <= 8 && 1 <= width && width <= 1000000
			if good && (m == nil || err != gauge.OK) || !good && (m != nil || err != gauge.ErrArg) {
				t.Errorf("New(%d, %d) = %v, %d", slices, width, m, err)
			}
		}
	}
}

func TestNewMeterHasNoSamples(t *testing.T) {
	for slices := 1; slices <= 8; slices++ {
		m := newMeter(t, slices, 10)
		checkCounts(t, m, make([]int, slices)...)
		for k := 1; k <= slices; k++ {
			checkEmpty(t, m, k, 1, 2)
		}
	}
}

func TestNewMeterHasItsClockAtNought(t *testing.T) {
	for _, width := range []int{1, 2, 10, 1000000} {
		m := newMeter(t, 3, width)
		checkTick(t, m, -1, gauge.ErrArg)
		checkAdd(t, m, width, 0, gauge.ErrSoon)
		checkAdd(t, m, width-1, 0, gauge.OK)
		checkAdd(t, m, 0, 0, gauge.OK)
		checkTick(t, m, 0, gauge.OK)
		checkCounts(t, m, 2, 2, 2)
	}
}

func TestTickTakesOnlyTimesFromTheClockOn(t *testing.T) {
	m := newMeter(t, 2, 10)
	for _, at := range []int{0, 1, 9, 10, 15, 15, 1000, maxTime - 1, maxTime} {
		checkTick(t, m, at, gauge.OK)
		checkTick(t, m, at-1, gauge.ErrArg)
		checkTick(t, m, maxTime+1, gauge.ErrArg)
		checkTick(t, m, at, gauge.OK)
	}
	for _, at := range []int{leastInt, -maxTime, -1, 0, 1, 15, maxTime - 1, maxTime + 1, greatestInt} {
		checkTick(t, m, at, gauge.ErrArg)
	}
	checkTick(t, m, maxTime, gauge.OK)
}

// Each slice has another number of samples: 1 the present one, 2 the one ahead of it, 4 the next.
func TestTickForgetsWhatIsKeptNoMore(t *testing.T) {
	for _, width := range []int{1, 2, 10, 1000000} {
		for slices := 1; slices <= 8; slices++ {
			for steps := range slices + 3 {
				m := filledMeter(t, slices, width)
				checkTick(t, m, (slices-1+steps)*width, gauge.OK)
				checkCounts(t, m, countsAfter(slices, steps)...)
			}
		}
	}
}

// filledMeter is a meter whose present slice is the first of which all slices ahead can have samples.
func filledMeter(t *testing.T, slices, width int) *gauge.Meter {
	t.Helper()
	m := newMeter(t, slices, width)
	checkTick(t, m, (slices-1)*width, gauge.OK)
	for ahead := range slices {
		for range 1 << ahead {
			checkAdd(t, m, (slices-1-ahead)*width, math.Float64bits(float64(ahead)), gauge.OK)
		}
	}
	return m
}

// countsAfter tells what a filled meter counts when its clock has gone some slices on.
func countsAfter(slices, steps int) []int {
	var counts []int
	sum := 0
	for k := range slices {
		if k >= steps {
			sum += 1 << (k - steps)
		}
		counts = append(counts, sum)
	}
	return counts
}

func TestTickByTurnsForgetsAsInOneGo(t *testing.T) {
	for steps := range 10 {
		m := filledMeter(t, 8, 10)
		for at := 70; at <= 70+10*steps; at++ {
			checkTick(t, m, at, gauge.OK)
		}
		checkCounts(t, m, countsAfter(8, steps)...)
	}
}

func TestTickWithinASliceForgetsNothing(t *testing.T) {
	m := filledMeter(t, 3, 10)
	checkTick(t, m, 29, gauge.OK)
	checkCounts(t, m, 1, 3, 7)
	checkTick(t, m, 29, gauge.OK)
	checkCounts(t, m, 1, 3, 7)
	checkTick(t, m, 30, gauge.OK)
	checkCounts(t, m, 0, 1, 3)
	checkTick(t, m, 59, gauge.OK)
	checkCounts(t, m, 0, 0, 0)
}

func TestForgottenSamplesStayForgotten(t *testing.T) {
	m := filledMeter(t, 3, 10)
	for at := 60; at < 500; at += 10 {
		checkTick(t, m, at, gauge.OK)
		checkCounts(t, m, 0, 0, 0)
		checkEmpty(t, m, 3, 1, 1)
	}
}

func TestTickToTheLastTime(t *testing.T) {
	for _, width := range []int{1, 7, 10, 999999, 1000000} {
		m := filledMeter(t, 4, width)
		checkTick(t, m, maxTime, gauge.OK)
		checkCounts(t, m, 0, 0, 0, 0)
		oldest := maxTime - maxTime%width - 3*width
		checkAdd(t, m, maxTime, 0, gauge.OK)
		checkAdd(t, m, oldest, 0, gauge.OK)
		checkAdd(t, m, oldest-1, 0, gauge.ErrOld)
		checkAdd(t, m, maxTime+1, 0, gauge.ErrArg)
		checkCounts(t, m, 1, 1, 1, 2)
	}
}

// A meter can have its oldest slice ahead of the time 0.
func TestAddAtTheFirstTimes(t *testing.T) {
	m := newMeter(t, 3, 10)
	checkTick(t, m, 19, gauge.OK)
	checkAdd(t, m, 0, 0, gauge.OK)
	checkAdd(t, m, 9, 0, gauge.OK)
	checkAdd(t, m, 10, 0, gauge.OK)
	for _, at := range []int{leastInt, -maxTime, -11, -10, -1} {
		checkAdd(t, m, at, 0, gauge.ErrArg)
	}
	checkCounts(t, m, 1, 3, 3)
}

func TestAddAtTheEdgesOfSlices(t *testing.T) {
	for _, width := range []int{1, 2, 10, 1000000} {
		for slices := 1; slices <= 8; slices++ {
			for _, within := range []int{0, width / 2, width - 1} {
				checkSliceEdges(t, slices, width, 1000*width+within)
			}
		}
	}
}

func checkSliceEdges(t *testing.T, slices, width, clock int) {
	t.Helper()
	m := newMeter(t, slices, width)
	checkTick(t, m, clock, gauge.OK)
	present := clock - clock%width
	checkAdd(t, m, present+width, 0, gauge.ErrSoon)
	checkAdd(t, m, present-(slices-1)*width-1, 0, gauge.ErrOld)
	checkCounts(t, m, make([]int, slices)...)
	counts := make([]int, slices)
	for ahead := range slices {
		first := present - ahead*width
		checkAdd(t, m, first, 0, gauge.OK)
		checkAdd(t, m, first+width-1, 0, gauge.OK)
		for k := ahead; k < slices; k++ {
			counts[k] += 2
		}
		checkCounts(t, m, counts...)
	}
}

// Of several errors the answer is the one that the document names first.
func TestAddErrors(t *testing.T) {
	m := newMeter(t, 2, 10)
	checkTick(t, m, 35, gauge.OK)
	for _, c := range []struct {
		at    int
		value uint64
		want  gauge.Errno
	}{
		{leastInt, noNumber, gauge.ErrArg}, {-1, noNumber, gauge.ErrArg}, {-1, 0, gauge.ErrArg},
		{maxTime + 1, noNumber, gauge.ErrArg}, {maxTime + 1, 0, gauge.ErrArg}, {greatestInt, 0, gauge.ErrArg},
		{0, noNumber, gauge.ErrValue}, {19, noNumber, gauge.ErrValue}, {25, noNumber, gauge.ErrValue},
		{35, noNumber, gauge.ErrValue}, {40, noNumber, gauge.ErrValue}, {maxTime, noNumber, gauge.ErrValue},
		{0, 0, gauge.ErrOld}, {19, infinity, gauge.ErrOld},
		{40, 0, gauge.ErrSoon}, {maxTime, minusInfinity, gauge.ErrSoon},
	} {
		checkAdd(t, m, c.at, c.value, c.want)
		checkCounts(t, m, 0, 0)
	}
}

func TestAddTakesAllButNoNumber(t *testing.T) {
	for _, c := range []struct {
		value uint64
		want  gauge.Errno
	}{
		{0, gauge.OK}, {1, gauge.OK}, {leastUsual - 1, gauge.OK}, {leastUsual, gauge.OK},
		{greatest, gauge.OK}, {infinity, gauge.OK},
		{infinity + 1, gauge.ErrValue}, {infinity + 1<<45, gauge.ErrValue}, {noNumber - 1, gauge.ErrValue},
		{noNumber, gauge.ErrValue}, {noNumber + 1, gauge.ErrValue}, {signBit - 1, gauge.ErrValue},
	} {
		for _, sign := range []uint64{0, signBit} {
			checkAdd(t, newMeter(t, 1, 1), 0, c.value|sign, c.want)
		}
	}
}

func TestCountTakesOnlySlicesThatThereAre(t *testing.T) {
	for slices := 1; slices <= 8; slices++ {
		m := filledMeter(t, slices, 10)
		checkCounts(t, m, countsAfter(slices, 0)...)
		for _, k := range []int{leastInt, -1, 0, slices + 1, 9, greatestInt} {
			if n, err := m.Count(k); n != 0 || err != gauge.ErrArg {
				t.Errorf("of %d slices Count(%d) = %d, %d; want ErrArg", slices, k, n, err)
			}
		}
	}
}

func TestCountOfManySamples(t *testing.T) {
	m := newMeter(t, 2, 10)
	for n := range 3000 {
		addNumbers(t, m, n%10, float64(n%7))
	}
	checkTick(t, m, 10, gauge.OK)
	addNumbers(t, m, 10, 1)
	checkCounts(t, m, 1, 3001)
}
