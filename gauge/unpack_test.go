package gauge_test

import (
	"math/rand"
	"strings"
	"testing"

	"gauge/gauge"
)

func checkNoChunk(t *testing.T, chunk string) {
	t.Helper()
	if samples, err := gauge.Unpack(chunk); samples != nil || err != gauge.ErrChunk {
		t.Errorf("Unpack(%.80x) = %v, %d; want ErrChunk", chunk, samples, err)
	}
}

func TestUnpackTooShort(t *testing.T) {
	checkNoChunk(t, "")
	checkNoChunk(t, "\x00")
	checkNoChunk(t, "\x01")
	for count := 1; count <= 40; count++ {
		checkNoChunk(t, bytesOf(digitsOf(uint64(count), 16)))
	}
	checkNoChunk(t, bytesOf(headOf(2, gauge.Sample{T: 1, V: 1})))
	r := rand.New(rand.NewSource(5))
	for range 100 {
		chunk, _ := gauge.Pack(someSamples(r))
		for end := range len(chunk) {
			checkNoChunk(t, chunk[:end])
		}
	}
}

func TestUnpackBytesMore(t *testing.T) {
	r := rand.New(rand.NewSource(6))
	for range 100 {
		chunk, _ := gauge.Pack(someSamples(r))
		for _, more := range []string{"\x00", "\x01", "\x80", "\xff", "\x00\x00", strings.Repeat("\x00", 1000), chunk} {
			checkNoChunk(t, chunk+more)
		}
	}
}

func TestUnpackCount(t *testing.T) {
	for _, count := range []int{41, 42, 255, 256, 1 << 15, 1<<16 - 1} {
		checkNoChunk(t, bytesOf(digitsOf(uint64(count), 16)))
		// As many bits as that many samples of one kind would take.
		checkNoChunk(t, bytesOf(headOf(count, gauge.Sample{})+strings.Repeat("0", 2*(count-1))))
		checkNoChunk(t, bytesOf(headOf(count, gauge.Sample{})+strings.Repeat("0", 2*39)))
	}
	// The count of one chunk over the samples of another.
	for count := range 41 {
		checkUnpacked(t, bytesOf(headOf(count, gauge.Sample{})+strings.Repeat("0", 2*19)))
	}
}

func TestUnpackBitsBehindTheEnd(t *testing.T) {
	two := headOf(2, gauge.Sample{T: 0, V: 7})
	for _, behind := range []string{"000001", "100000", "010000", "111111"} {
		checkNoChunk(t, bytesOf(two+"0 0"+behind))
	}
	r := rand.New(rand.NewSource(7))
	for range 200 {
		text := chunkText(someSamples(r))
		for len(text)%8 != 0 {
			checkNoChunk(t, bytesOf(text+"1"))
			text += "0"
		}
	}
}

// What can be read, but Pack would have written otherwise.
func TestUnpackWrittenOtherwise(t *testing.T) {
	two := headOf(2, gauge.Sample{T: 0, V: 7})
	for _, behind := range []string{
		"10 0000000 0", "110 000000000 0", "1110 000000000000 0", "1111" + strings.Repeat("0", 64) + "0",
		"110 000000001 0", "110 000111111 0", "110 111000000 0", "1110 000000111111 0", "1111" + allDigits(63) + "0",
		"1110 000011111111 0", "1110 111100000000 0", "1111" + allDigits(255) + "0",
		"1111" + allDigits(2047) + "0", "1111" + strings.Repeat("1", 53) + "00000000000 0",
		"0 10", "0 10 1", "0 10" + strings.Repeat("1", 64), // no window yet
		"0 11 00000 000000 0", "0 11 00000 111111" + strings.Repeat("0", 64), // X is 0
		"0 11 00000 000001 01", "0 11 11110 000001 01", // more bits 0 ahead than L
		"0 11 00000 000001 10", "0 11 11111 000001 10", // a bit 0 at the end
		"0 11 11111 111111" + strings.Repeat("1", 64), "0 11 11111 100001" + strings.Repeat("1", 34), "0 11 00001 111111" + strings.Repeat("1", 64), // more than 64 bits
	} {
		checkNoChunk(t, bytesOf(two+behind))
	}
}

func TestUnpackTimesWrittenOtherwise(t *testing.T) {
	forms := []struct {
		ahead string
		width int
	}{{"10", 7}, {"110", 9}, {"1110", 12}, {"1111", 64}}
	for change := -2050; change <= 2050; change++ {
		right := changeText(int64(change))
		for _, form := range forms {
			text := form.ahead + digitsOf(uint64(change), form.width)
			if len(text) <= len(right) {
				continue
			}
			checkNoChunk(t, bytesOf(headOf(2, gauge.Sample{V: 7})+text+"0"))
			checkNoChunk(t, bytesOf(headOf(3, gauge.Sample{V: 7})+"10 0010000 0"+text+"0"))
		}
	}
}

func TestUnpackValuesWrittenOtherwise(t *testing.T) {
	wide := textWindow{16, 24, true}
	two := headOf(3, gauge.Sample{V: 7}) + "0" + wide.withWindow(allDigits(0xFF<<40)) + "0"
	for x := uint64(0); x < 1<<8; x++ {
		all := allDigits(x << 40)
		for from := 14; from <= 24; from++ {
			for to := from + 1; to <= 26; to++ {
				checkNoChunk(t, bytesOf(two+textWindow{from, to, true}.withWindow(all)))
			}
		}
	}
	checkNoChunk(t, bytesOf(two+wide.inWindow(allDigits(0))))
}

// A value by a window of its own that is wider than what is needed, on any side.
func TestUnpackWindowTooWide(t *testing.T) {
	one := headOf(2, gauge.Sample{V: 7}) + "0"
	for _, x := range []uint64{1, 1 << 20, 1 << 32, 1 << 33, 1 << 63, 0xFF << 28, 1<<63 | 1} {
		all := allDigits(x)
		right := tightWindow(all)
		for from := 0; from <= right.from; from++ {
			for to := right.to; to <= 64; to++ {
				if w := (textWindow{from, to, true}); w != right {
					checkNoChunk(t, bytesOf(one+w.withWindow(all)))
				}
			}
		}
	}
}

// checkUnpacked checks that what Unpack tells, if it tells anything, is what the chunk is of.
func checkUnpacked(t *testing.T, chunk string) {
	t.Helper()
	samples, err := gauge.Unpack(chunk)
	switch {
	case err == gauge.OK && len(samples) <= 40 && bytesOf(chunkText(samples)) == chunk:
	case err == gauge.ErrChunk && samples == nil:
	default:
		t.Errorf("Unpack(%.80x) = %v, %d", chunk, samples, err)
	}
}

func TestUnpackDamaged(t *testing.T) {
	r := rand.New(rand.NewSource(8))
	for range 2000 {
		chunk, _ := gauge.Pack(someSamples(r))
		for range 4 {
			bit := r.Intn(8 * len(chunk))
			damaged := []byte(chunk)
			damaged[bit/8] ^= 1 << (bit % 8)
			checkUnpacked(t, string(damaged))
		}
	}
}

// Every two bytes behind a first sample: as many are chunks as the document says.
func TestUnpackAllOfTwoBytes(t *testing.T) {
	head := bytesOf(headOf(2, gauge.Sample{T: 1, V: 7}))
	found := 0
	for n := range 1 << 16 {
		chunk := head + string([]byte{byte(n >> 8), byte(n)})
		checkUnpacked(t, chunk)
		if _, err := gauge.Unpack(chunk); err == gauge.OK {
			found++
		}
	}
	// With the value of before: 127 changes of 7 bits and 384 of 9. With the time of before: 32 windows of one bit, and 33 of two, the last one a 1: 32 that begin with a 1, and, at 31, one that begins with a 0.
	want := 127 + 384 + 32 + 33
	if found != want {
		t.Errorf("%d chunks of two bytes behind the first sample; want %d", found, want)
	}
}
