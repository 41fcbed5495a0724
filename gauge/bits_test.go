package gauge

import "testing"

func TestBitsThereAndBack(t *testing.T) {
	var out bitWriter
	out.write(0b101, 3)
	out.write(1<<64-1, 0)
	out.write(0x123456789ABCDEF0, 64)
	out.fillUp()
	out.fillUp()
	if len(out.bytes) != 9 {
		t.Fatalf("67 bits are %d bytes", len(out.bytes))
	}
	in := bitReader{bytes: string(out.bytes)}
	for _, want := range []struct {
		count  int
		number uint64
	}{{3, 0b101}, {0, 0}, {64, 0x123456789ABCDEF0}, {5, 0}, {0, 0}} {
		if number := in.read(want.count); number != want.number {
			t.Errorf("%d bits are %X; want %X", want.count, number, want.number)
		}
	}
}

// gaveUp tells what reading bits panics with.
func gaveUp(bytes string, counts ...int) (reason any) {
	defer func() { reason = recover() }()
	in := bitReader{bytes: bytes}
	for _, count := range counts {
		in.read(count)
	}
	return nil
}

func TestReaderGivesUp(t *testing.T) {
	for _, c := range []struct {
		bytes  string
		counts []int
		want   any
	}{
		{"", []int{0}, nil},
		{"", []int{1}, tooFewBits{}},
		{"\xff", []int{8}, nil},
		{"\xff", []int{9}, tooFewBits{}},
		{"\xff", []int{8, 1}, tooFewBits{}},
		{"12345678", []int{64}, nil},
		{"1234567", []int{64}, tooFewBits{}},
	} {
		if reason := gaveUp(c.bytes, c.counts...); reason != c.want {
			t.Errorf("reading %v bits of %x ended with %v; want %v", c.counts, c.bytes, reason, c.want)
		}
	}
}

func TestReadSamplesRecovers(t *testing.T) {
	for _, chunk := range []string{"", "\x00", "\x00\x01", "\x00\x02" + string(make([]byte, 16))} {
		if samples, found := readSamples(chunk); samples != nil || found {
			t.Errorf("readSamples(%x) = %v, %v", chunk, samples, found)
		}
	}
}
