package gauge_test

import (
	"math"
	"math/rand"
	"slices"
	"testing"

	"gauge/gauge"
)

func checkEmpty(t *testing.T, m *gauge.Meter, k, a, b int) {
	t.Helper()
	if got, err := m.Quantile(k, a, b); got != 0 || err != gauge.ErrEmpty {
		t.Errorf("Quantile(%d, %d, %d) = %X, %d; want ErrEmpty", k, a, b, got, err)
	}
}

func TestBuckets(t *testing.T) {
	one := math.Float64bits(1)
	for _, c := range []struct{ value, want uint64 }{
		{0, 0}, {1, 0}, {leastUsual / 2, 0}, {leastUsual - 1, 0},
		{leastUsual, leastUsual}, {leastUsual + 1, leastUsual}, {leastUsual + 1<<45 - 1, leastUsual},
		{leastUsual + 1<<45, leastUsual + 1<<45}, {2*leastUsual - 1, 2*leastUsual - 1<<45},
		{one, one}, {one + 1, one}, {one + 1<<44, one}, {one + 1<<45 - 1, one}, {one + 1<<45, one + 1<<45},
		{one - 1, one - 1<<45}, {greatest, infinity - 1<<45}, {infinity - 1<<45 - 1, infinity - 2<<45},
	} {
		checkBucket(t, c.value, c.want)
		if c.want == 0 {
			checkBucket(t, c.value|signBit, 0)
		} else {
			checkBucket(t, c.value|signBit, c.want|signBit)
		}
	}
	checkBucket(t, infinity, infinity)
	checkBucket(t, minusInfinity, minusInfinity)
	checkBucket(t, math.Float64bits(1.503), math.Float64bits(1.5))
	checkBucket(t, math.Float64bits(1.5078125), math.Float64bits(1.5078125))
}

func checkBucket(t *testing.T, value, want uint64) {
	t.Helper()
	m := newMeter(t, 1, 1)
	checkAdd(t, m, 0, value, gauge.OK)
	if got, err := m.Quantile(1, 1, 1); got != want || err != gauge.OK {
		t.Errorf("the bucket of %X is %X, %d; want %X", value, got, err, want)
	}
}

func TestBucketsOfAnyValue(t *testing.T) {
	r := rand.New(rand.NewSource(13))
	for range 20000 {
		value := r.Uint64()
		if value&^signBit <= infinity {
			checkBucket(t, value, plainBucket(value))
		}
	}
	for e := range uint64(2047) {
		for _, value := range []uint64{e << 52, (e+1)<<52 - 1, signBit + e<<52 + r.Uint64()>>12} {
			checkBucket(t, value, plainBucket(value))
		}
	}
}

// What is in one bucket is one to the meter: small numbers and noughts of either sign too.
func TestNoughtsAndSmallNumbersAreOneBucket(t *testing.T) {
	m := newMeter(t, 1, 1)
	for _, value := range []uint64{minusNought, 0, 1, signBit | 1, leastUsual - 1, signBit | (leastUsual - 1)} {
		checkAdd(t, m, 0, value, gauge.OK)
	}
	checkAdd(t, m, 0, leastUsual, gauge.OK)
	checkAdd(t, m, 0, leastUsual|signBit, gauge.OK)
	checkQuantile(t, m, 1, 1, 8, leastUsual|signBit)
	for a := 2; a <= 7; a++ {
		checkQuantile(t, m, 1, a, 8, 0)
	}
	checkQuantile(t, m, 1, 8, 8, leastUsual)
}

func TestQuantileArguments(t *testing.T) {
	empty, full := newMeter(t, 3, 10), filledMeter(t, 3, 10)
	numbers := []int{leastInt, -1000, -1, 0, 1, 2, 3, 4, 500, 999, 1000, 1001, maxTime, greatestInt}
	for _, k := range numbers {
		for _, a := range numbers {
			for _, b := range numbers {
				if 1 <= k && k <= 3 && 1 <= b && b <= 1000 && 0 <= a && a <= b {
					checkEmpty(t, empty, k, a, b)
					continue
				}
				checkNoQuantile(t, empty, k, a, b)
				checkNoQuantile(t, full, k, a, b)
			}
		}
	}
}

func checkNoQuantile(t *testing.T, m *gauge.Meter, k, a, b int) {
	t.Helper()
	if got, err := m.Quantile(k, a, b); got != 0 || err != gauge.ErrArg {
		t.Errorf("Quantile(%d, %d, %d) = %X, %d; want ErrArg", k, a, b, got, err)
	}
}

func TestQuantileOfSlicesWithoutSamples(t *testing.T) {
	m := newMeter(t, 4, 10)
	addNumbers(t, m, 0, 5)
	for empty := 1; empty <= 3; empty++ {
		checkTick(t, m, 10*empty, gauge.OK)
		for k := 1; k <= 4; k++ {
			if k <= empty {
				checkEmpty(t, m, k, 1, 2)
			} else {
				checkQuantile(t, m, k, 1, 2, math.Float64bits(5))
			}
		}
	}
	checkTick(t, m, 40, gauge.OK)
	checkEmpty(t, m, 4, 1, 2)
}

// An empty answer is told from the bucket 0.
func TestQuantileOfNought(t *testing.T) {
	m := newMeter(t, 1, 1)
	checkEmpty(t, m, 1, 0, 1)
	checkAdd(t, m, 0, 0, gauge.OK)
	checkQuantile(t, m, 1, 0, 1, 0)
}

func TestRanksAreRoundedUp(t *testing.T) {
	m := newMeter(t, 1, 1)
	addNumbers(t, m, 0, 3, 1, 4, 2)
	for _, c := range []struct {
		a, b int
		want float64
	}{
		{0, 1, 1}, {0, 1000, 1}, {1, 1000, 1}, {1, 5, 1}, {1, 4, 1}, {250, 1000, 1},
		{251, 1000, 2}, {1, 3, 2}, {1, 2, 2}, {500, 1000, 2},
		{501, 1000, 3}, {2, 3, 3}, {3, 4, 3}, {750, 1000, 3},
		{751, 1000, 4}, {4, 5, 4}, {999, 1000, 4}, {1, 1, 4}, {4, 4, 4}, {1000, 1000, 4},
	} {
		checkQuantile(t, m, 1, c.a, c.b, math.Float64bits(c.want))
	}
}

func TestRanksOfSamplesInOneBucket(t *testing.T) {
	m := newMeter(t, 2, 10)
	for range 700 {
		addNumbers(t, m, 0, 2, 2.001)
	}
	for range 600 {
		addNumbers(t, m, 0, -2)
	}
	checkQuantile(t, m, 1, 300, 1000, math.Float64bits(-2))
	checkQuantile(t, m, 1, 301, 1000, math.Float64bits(2))
	checkQuantile(t, m, 1, 1, 1, math.Float64bits(2))
	// One sample more, of another slice, takes the last rank of those below.
	checkTick(t, m, 10, gauge.OK)
	addNumbers(t, m, 10, -3)
	checkQuantile(t, m, 2, 300, 1000, math.Float64bits(-2))
	checkQuantile(t, m, 2, 0, 1000, math.Float64bits(-3))
	checkQuantile(t, m, 1, 1, 1, math.Float64bits(-3))
}

func TestQuantileJoinsSlices(t *testing.T) {
	m := newMeter(t, 3, 10)
	addNumbers(t, m, 0, 1, 5, 5)
	checkTick(t, m, 10, gauge.OK)
	addNumbers(t, m, 10, 5, -7)
	checkTick(t, m, 20, gauge.OK)
	addNumbers(t, m, 20, 6)
	for k, want := range [][]float64{{6}, {-7, 5, 6}, {-7, 1, 5, 5, 5, 6}} {
		for rank, number := range want {
			checkQuantile(t, m, k+1, rank+1, len(want), math.Float64bits(number))
		}
	}
}

// numbersInOrder has numbers that are their own buckets, of either sign, near to nought and to infinity.
var numbersInOrder = []uint64{
	minusInfinity, signBit | (infinity - 1<<45), signBit | 0x4059000000000000, signBit | 0x3FF0200000000000,
	signBit | 0x3FF0000000000000, signBit | 0x3FE0000000000000, signBit | (leastUsual + 1<<45), signBit | leastUsual,
	0, leastUsual, leastUsual + 1<<45, 0x3FE0000000000000, 0x3FF0000000000000, 0x3FF0200000000000,
	0x4059000000000000, infinity - 1<<45, infinity,
}

func TestLowestComesFirst(t *testing.T) {
	r := rand.New(rand.NewSource(14))
	for range 50 {
		m := newMeter(t, 8, 1)
		checkTick(t, m, 7, gauge.OK)
		for _, i := range r.Perm(len(numbersInOrder)) {
			checkAdd(t, m, r.Intn(8), numbersInOrder[i], gauge.OK)
		}
		for i, want := range numbersInOrder {
			checkQuantile(t, m, 8, i+1, len(numbersInOrder), want)
		}
	}
}

// Every part of 1 to 12 samples, against the samples written out and sorted.
func TestEveryPart(t *testing.T) {
	r := rand.New(rand.NewSource(15))
	m, plain := newMeter(t, 1, 1), newPlain(1, 1)
	for range 12 {
		value := numbersInOrder[r.Intn(len(numbersInOrder))]
		checkAdd(t, m, 0, value, plain.add(0, value))
		sorted := plain.last(1)
		for _, b := range []int{1, 2, 3, 4, 5, 6, 7, 10, 11, 12, 100, 997, 1000} {
			for a := range b + 1 {
				checkQuantile(t, m, 1, a, b, sorted[plainRank(a, len(sorted), b)-1])
			}
		}
	}
}

func TestQuantileOfManyBuckets(t *testing.T) {
	m := newMeter(t, 1, 1)
	var buckets []uint64
	for e := uint64(1); e < 2047; e++ {
		for part := range uint64(8) {
			buckets = append(buckets, e<<52+part<<49)
		}
	}
	for _, bucket := range buckets {
		checkAdd(t, m, 0, bucket|signBit, gauge.OK)
		checkAdd(t, m, 0, bucket, gauge.OK)
	}
	below := slices.Clone(buckets)
	slices.Reverse(below)
	for _, a := range []int{0, 1, 250, 499, 500} {
		checkQuantile(t, m, 1, a, 1000, signBit|below[plainRank(a, 2*len(below), 1000)-1])
	}
	for _, a := range []int{501, 750, 1000} {
		checkQuantile(t, m, 1, a, 1000, buckets[plainRank(a, 2*len(buckets), 1000)-len(buckets)-1])
	}
}
