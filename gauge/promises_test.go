package gauge_test

// P1 and P2: what holds for every call.

import (
	"math/rand"
	"slices"
	"strings"
	"testing"

	"gauge/gauge"
)

// checkCalls makes every call with a text, and checks that what is refused tells nothing else.
func checkCalls(t *testing.T, text string) {
	t.Helper()
	if value, err := gauge.Number(text); err != gauge.OK && value != 0 {
		t.Errorf("Number(%.80q) = %X, %d", text, value, err)
	}
	checkUnpacked(t, text)
}

func TestCallsAtAnyText(t *testing.T) {
	r := rand.New(rand.NewSource(9))
	for range 20000 {
		text := make([]byte, r.Intn(100))
		r.Read(text)
		checkCalls(t, string(text))
		// With few samples the bits behind are read, with many they are not enough.
		checkCalls(t, "\x00"+string(rune(r.Intn(45)))+string(text))
	}
}

func TestCallsAtAnyValue(t *testing.T) {
	r := rand.New(rand.NewSource(10))
	for range 20000 {
		value := r.Uint64()
		back, err := gauge.Number(gauge.Short(value))
		if err != gauge.OK || back != value && gauge.Short(value) != "nan" {
			t.Errorf("Number(Short(%X)) = %X, %d", value, back, err)
		}
	}
}

func TestCallsAtAnyList(t *testing.T) {
	for count := range 100 {
		chunk, err := gauge.Pack(make([]gauge.Sample, count))
		if count <= 40 && err != gauge.OK || count > 40 && (err != gauge.ErrMany || chunk != "") {
			t.Errorf("Pack of %d samples = %x, %d", count, chunk, err)
		}
	}
}

func TestCallsAtAnyNumber(t *testing.T) {
	r := rand.New(rand.NewSource(19))
	// Numbers of every length, of either sign.
	number := func() int { return int(r.Uint64()) >> r.Intn(64) }
	for range 2000 {
		p := newPair(t, 1+r.Intn(8), 1+r.Intn(1000000))
		p.rule(t, plainRule{r.Uint64(), r.Uint64(), 1 + r.Intn(3), 3 + r.Intn(3), r.Intn(9)})
		p.tick(t, number())
		p.add(t, number(), r.Uint64())
		p.checkPart(t, number(), number(), number())
		p.rule(t, plainRule{r.Uint64(), r.Uint64(), number(), number(), number()})
		p.decide(t, number(), number(), number())
		p.decide(t, p.plain.slices, 1, 1)
		p.check(t)
	}
}

func TestCallsAtLongTexts(t *testing.T) {
	const long = 1 << 24
	head := bytesOf(headOf(40, gauge.Sample{}))
	for _, text := range []string{strings.Repeat("1", long), head + strings.Repeat("\x00", long), head + strings.Repeat("\xff", long)} {
		if value, err := gauge.Number(text); value != 0 || err != gauge.ErrLong {
			t.Errorf("Number of %d bytes = %X, %d; want ErrLong", len(text), value, err)
		}
		checkNoChunk(t, text)
	}
}

func TestListsAreNotWrittenInto(t *testing.T) {
	r := rand.New(rand.NewSource(11))
	for range 500 {
		whole := append(someSamples(r), atTimes(1, 2, 3)...)
		before := slices.Clone(whole)
		gauge.Pack(whole[:r.Intn(len(whole))])
		if !slices.Equal(whole, before) {
			t.Fatalf("Pack wrote into %v: %v", before, whole)
		}
	}
	whole := make([]gauge.Sample, 100)
	gauge.Pack(whole[:41])
	if !slices.Equal(whole, make([]gauge.Sample, 100)) {
		t.Errorf("Pack wrote into a list that it refused: %v", whole)
	}
}

func TestListsAreNotKept(t *testing.T) {
	samples := atTimes(1, 2, 3)
	chunk, _ := gauge.Pack(samples)
	samples[0], samples[2] = gauge.Sample{T: 9, V: 9}, gauge.Sample{T: 8, V: 8}
	if again, _ := gauge.Pack(atTimes(1, 2, 3)); chunk != again {
		t.Errorf("Pack tells %x and %x of the same samples", chunk, again)
	}
}

func TestListsAreTheCallersOwn(t *testing.T) {
	chunk, _ := gauge.Pack(atTimes(1, 2, 3))
	first, _ := gauge.Unpack(chunk)
	second, _ := gauge.Unpack(chunk)
	for i := range first[:cap(first)] {
		first[:cap(first)][i] = gauge.Sample{T: 9, V: 9}
	}
	third, _ := gauge.Unpack(chunk)
	if !slices.Equal(second, atTimes(1, 2, 3)) || !slices.Equal(third, atTimes(1, 2, 3)) {
		t.Errorf("Unpack tells %v and %v where its caller wrote into its own list", second, third)
	}
}

// What a call answers does not hang on the calls ahead of it, also where these were refused.
func TestAnswersStayTheSame(t *testing.T) {
	r := rand.New(rand.NewSource(12))
	for range 200 {
		samples := someSamples(r)
		chunk, _ := gauge.Pack(samples)
		gauge.Pack(make([]gauge.Sample, 41))
		gauge.Unpack(chunk[:len(chunk)-1])
		gauge.Unpack("\x00\x02")
		gauge.Pack(someSamples(r))
		checkPacked(t, samples, chunk)
	}
}
