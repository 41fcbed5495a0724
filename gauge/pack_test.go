package gauge_test

import (
	"math"
	"math/rand"
	"slices"
	"strings"
	"testing"

	"gauge/gauge"
)

// checkPacked holds a chunk against what Pack tells of some samples, and the samples against what Unpack tells of it.
func checkPacked(t *testing.T, samples []gauge.Sample, want string) {
	t.Helper()
	if chunk, err := gauge.Pack(samples); chunk != want || err != gauge.OK {
		t.Errorf("Pack(%v) = %x, %d; want %x", samples, chunk, err, want)
	}
	if back, err := gauge.Unpack(want); !slices.Equal(back, samples) || err != gauge.OK {
		t.Errorf("Unpack(%x) = %v, %d; want %v", want, back, err, samples)
	}
}

func atTimes(times ...int) []gauge.Sample {
	var samples []gauge.Sample
	for _, time := range times {
		samples = append(samples, gauge.Sample{T: time, V: 7})
	}
	return samples
}

func ofValues(values ...uint64) []gauge.Sample {
	var samples []gauge.Sample
	for _, value := range values {
		samples = append(samples, gauge.Sample{T: 3, V: value})
	}
	return samples
}

// checkBehindFirst checks a chunk by what stands in it behind its first sample.
func checkBehindFirst(t *testing.T, samples []gauge.Sample, behind string) {
	t.Helper()
	checkPacked(t, samples, bytesOf(headOf(len(samples), samples[0])+behind))
}

func TestPackFewSamples(t *testing.T) {
	checkPacked(t, nil, "\x00\x00")
	checkPacked(t, []gauge.Sample{}, "\x00\x00")
	checkPacked(t, []gauge.Sample{{T: 5, V: 7}}, "\x00\x01\x00\x00\x00\x00\x00\x00\x00\x05\x00\x00\x00\x00\x00\x00\x00\x07")
	checkPacked(t, []gauge.Sample{{T: 0, V: 7}, {T: 0, V: 7}}, "\x00\x02\x00\x00\x00\x00\x00\x00\x00\x00\x00\x00\x00\x00\x00\x00\x00\x07\x00")
	checkPacked(t, []gauge.Sample{{T: -2, V: 0x0123456789ABCDEF}}, "\x00\x01\xff\xff\xff\xff\xff\xff\xff\xfe\x01\x23\x45\x67\x89\xab\xcd\xef")
	checkPacked(t, []gauge.Sample{{T: math.MinInt, V: signBit}}, "\x00\x01\x80\x00\x00\x00\x00\x00\x00\x00\x80\x00\x00\x00\x00\x00\x00\x00")
	checkPacked(t, []gauge.Sample{{T: math.MaxInt, V: 1<<64 - 1}}, "\x00\x01\x7f\xff\xff\xff\xff\xff\xff\xff\xff\xff\xff\xff\xff\xff\xff\xff")
}

func TestPackOrdinary(t *testing.T) {
	checkBehindFirst(t, []gauge.Sample{
		{T: 1000, V: math.Float64bits(1.5)},
		{T: 1010, V: math.Float64bits(1.5)},
		{T: 1020, V: math.Float64bits(1.25)},
		{T: 1031, V: math.Float64bits(1.5)},
	}, "10 0001010 0"+
		"0 11 01100 000001 11"+
		"10 0000001 10 11")
}

var changeEdges = []struct {
	change int
	text   string
}{
	{0, "0"},
	{1, "10 0000001"}, {-1, "10 1111111"}, {63, "10 0111111"}, {-64, "10 1000000"},
	{64, "110 001000000"}, {-65, "110 110111111"}, {255, "110 011111111"}, {-256, "110 100000000"},
	{256, "1110 000100000000"}, {-257, "1110 111011111111"}, {2047, "1110 011111111111"}, {-2048, "1110 100000000000"},
	{2048, "1111" + strings.Repeat("0", 52) + "100000000000"},
	{-2049, "1111" + strings.Repeat("1", 52) + "011111111111"},
	{math.MaxInt, "1111 0" + strings.Repeat("1", 63)},
	{math.MinInt, "1111 1" + strings.Repeat("0", 63)},
}

func TestPackTimesOfTwo(t *testing.T) {
	for _, first := range []int{0, 1, -1, 1000000, math.MaxInt, math.MinInt} {
		for _, c := range changeEdges {
			checkBehindFirst(t, atTimes(first, first+c.change), c.text+"0")
		}
	}
}

// What is told of a third sample is the change of the step, not the step.
func TestPackTimesOfThree(t *testing.T) {
	for _, step := range []int{10, -10, 63, -64, math.MaxInt, math.MinInt} {
		for _, c := range changeEdges {
			samples := atTimes(5, 5+step, 5+step+step+c.change)
			checkBehindFirst(t, samples, changeText(int64(step))+"0"+c.text+"0")
		}
	}
}

func TestPackTimesThatGoRound(t *testing.T) {
	checkBehindFirst(t, atTimes(math.MaxInt, math.MinInt, math.MinInt+1), "10 0000001 0"+"0 0")
	checkBehindFirst(t, atTimes(math.MinInt, math.MaxInt), "10 1111111 0")
	checkBehindFirst(t, atTimes(math.MaxInt-9, math.MaxInt, math.MinInt+8, math.MinInt+17), "10 0001001 0"+"0 0"+"0 0")
	// The steps are the greatest and the least int: the change goes round to 1.
	checkBehindFirst(t, atTimes(0, math.MaxInt, -1), "1111 0"+strings.Repeat("1", 63)+"0"+"10 0000001 0")
	checkBehindFirst(t, atTimes(0, math.MinInt, -1), "1111 1"+strings.Repeat("0", 63)+"0"+"10 1111111 0")
}

func TestPackWindowOfItsOwn(t *testing.T) {
	for _, c := range []struct {
		x    uint64
		text string
	}{
		{0, "0"},
		{1 << 63, "11 00000 000000 1"},
		{1 << 33, "11 11110 000000 1"},
		{1 << 32, "11 11111 000000 1"},
		{1 << 31, "11 11111 000001 01"},
		{1 << 30, "11 11111 000010 001"},
		{1, "11 11111 100000" + strings.Repeat("0", 32) + "1"},
		{0xF0, "11 11111 011100" + strings.Repeat("0", 25) + "1111"},
		{1<<63 | 1, "11 00000 111111 1" + strings.Repeat("0", 62) + "1"},
		{1<<64 - 1, "11 00000 111111" + strings.Repeat("1", 64)},
		{1<<63 - 1, "11 00001 111110" + strings.Repeat("1", 63)},
		{1<<64 - 2, "11 00000 111110" + strings.Repeat("1", 63)},
		{0xA5 << 40, "11 10000 000111 10100101"},
	} {
		for _, first := range []uint64{0, 1, noNumber, 1<<64 - 1} {
			checkBehindFirst(t, ofValues(first, first^c.x), "0"+c.text)
		}
	}
}

func TestPackWindowOfBefore(t *testing.T) {
	const wide = "0 11 10000 000111 11111111"
	for _, c := range []struct {
		x    uint64
		text string
	}{
		{0xFF << 40, "10 11111111"},
		{0x81 << 40, "10 10000001"},
		{0x18 << 40, "10 00011000"}, // wider than what is needed
		{0x01 << 40, "10 00000001"},
		{0x80 << 40, "10 10000000"},
		{0x100 << 40, "11 01111 000000 1"}, // one bit too far ahead
		{0x01 << 39, "11 11000 000000 1"},  // one bit too far behind
		{0x1FF << 39, "11 10000 001000 111111111"},
		{0x1FF << 40, "11 01111 001000 111111111"},
		{0x3FF << 39, "11 01111 001001 1111111111"},
		{0, "0"},
	} {
		checkBehindFirst(t, ofValues(0, 0xFF<<40, 0xFF<<40^c.x), wide+"0"+c.text)
	}
}

func TestPackWindowsInARow(t *testing.T) {
	// A window stays over values that are the same, and over times.
	checkBehindFirst(t, []gauge.Sample{{T: 0, V: 0}, {T: 0, V: 6 << 50}, {T: 9, V: 6 << 50}, {T: 18, V: 4 << 50}},
		"0 11 01011 000001 11"+"10 0001001 0"+"0 10 01")
	// A new window goes ahead of the old one, also where the old one would fit again.
	checkBehindFirst(t, ofValues(0, 0xFF<<40, 0xFF<<40^1, 0xFF<<40^1^0xF<<40, 0xFF<<40^1^0xF<<40^1),
		"0 11 10000 000111 11111111"+
			"0 11 11111 100000"+strings.Repeat("0", 32)+"1"+
			"0 11 10100 000011 1111"+
			"0 11 11111 100000"+strings.Repeat("0", 32)+"1")
	// With 31 and more bits 0 ahead the window begins at 31: what has 31 of them fits.
	checkBehindFirst(t, ofValues(0, 1, 1^1<<32, 1^1<<32^1<<33), "0 11 11111 100000"+strings.Repeat("0", 32)+"1"+
		"0 10 1"+strings.Repeat("0", 32)+
		"0 11 11110 000000 1")
	// The widest window fits everything from then on.
	checkBehindFirst(t, ofValues(0, 1<<64-1, 1<<64-2, 1<<63-2),
		"0 11 00000 111111"+strings.Repeat("1", 64)+
			"0 10"+strings.Repeat("0", 63)+"1"+
			"0 10 1"+strings.Repeat("0", 63))
}

func TestPackMany(t *testing.T) {
	checkPacked(t, make([]gauge.Sample, 39), "\x00\x27"+strings.Repeat("\x00", 16+10))
	checkPacked(t, make([]gauge.Sample, 40), "\x00\x28"+strings.Repeat("\x00", 16+10))
	for _, count := range []int{41, 42, 1 << 16, 1<<16 + 1} {
		if chunk, err := gauge.Pack(make([]gauge.Sample, count)); chunk != "" || err != gauge.ErrMany {
			t.Errorf("Pack of %d samples = %.20x, %d; want ErrMany", count, chunk, err)
		}
	}
}

// The longest chunk: every time takes all its bits, every value a new window of 63 bits, the last one of 64.
func TestPackLongest(t *testing.T) {
	samples := []gauge.Sample{{}}
	step := 0
	for i := 1; i < 40; i++ {
		step += 5000 * i
		x := []uint64{1<<63 - 1, 1<<64 - 2}[i%2]
		if i == 39 {
			x = 1<<64 - 1
		}
		last := samples[i-1]
		samples = append(samples, gauge.Sample{T: last.T + step, V: last.V ^ x})
	}
	chunk := bytesOf(chunkText(samples))
	if len(chunk) != 721 {
		t.Errorf("the longest chunk has %d bytes", len(chunk))
	}
	checkPacked(t, samples, chunk)
}

func TestPackHeldAgainstText(t *testing.T) {
	r := rand.New(rand.NewSource(4))
	for range 3000 {
		samples := someSamples(r)
		checkPacked(t, samples, bytesOf(chunkText(samples)))
	}
}

// someSamples tells samples that lie near to one another often enough for every kind of time and window.
func someSamples(r *rand.Rand) []gauge.Sample {
	var samples []gauge.Sample
	sample := gauge.Sample{T: int(r.Uint64()), V: r.Uint64()}
	step := 0
	for range r.Intn(41) {
		step += someChange(r)
		sample.T += step
		sample.V ^= someTurned(r)
		samples = append(samples, sample)
	}
	return samples
}

func someChange(r *rand.Rand) int {
	switch r.Intn(4) {
	case 0:
		return 0
	case 1:
		return changeEdges[r.Intn(len(changeEdges))].change
	case 2:
		return r.Intn(6000) - 3000
	}
	return int(r.Uint64()) >> r.Intn(64)
}

func someTurned(r *rand.Rand) uint64 {
	switch r.Intn(4) {
	case 0:
		return 0
	case 1:
		return 1 << r.Intn(64)
	case 2:
		return r.Uint64() >> 56 << 40
	}
	ahead := r.Intn(64)
	return r.Uint64() >> ahead << r.Intn(ahead+1)
}
