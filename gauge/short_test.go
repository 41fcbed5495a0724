package gauge_test

import (
	"math/rand"
	"testing"

	"gauge/gauge"
)

type shortCase struct {
	value uint64
	text  string
}

func checkShorts(t *testing.T, cases []shortCase) {
	t.Helper()
	for _, c := range cases {
		if text := gauge.Short(c.value); text != c.text {
			t.Errorf("Short(%X) = %q; want %q", c.value, text, c.text)
		}
	}
}

func TestShortOrdinary(t *testing.T) {
	checkShorts(t, []shortCase{
		{0x3FF0000000000000, "1e0"},
		{0xBFF0000000000000, "-1e0"},
		{0x3FB999999999999A, "1e-1"},
		{0x4059000000000000, "1e2"},
		{0xC059000000000000, "-1e2"},
		{0x4202A05F20000000, "1e10"},
		{0x400921FB54442D18, "3.141592653589793e0"},
		{0xC00921FB54442D18, "-3.141592653589793e0"},
		{0x405EDD2F1A9FBE77, "1.23456e2"},
		{0x3FF8000000000000, "1.5e0"},
		{0x3FD3333333333334, "3.0000000000000004e-1"},
		{0x44B52D02C7E14AF5, "9.999999999999997e22"},
		{0x44B52D02C7E14AF6, "1e23"},
	})
}

func TestShortWithoutDigits(t *testing.T) {
	checkShorts(t, []shortCase{
		{0, "0"},
		{signBit, "-0"},
		{infinity, "inf"},
		{signBit | infinity, "-inf"},
		{infinity + 1, "nan"},
		{noNumber, "nan"},
		{noNumber + 1, "nan"},
		{signBit - 1, "nan"},
		{signBit | infinity + 1, "nan"},
		{signBit | noNumber, "nan"},
		{1<<64 - 1, "nan"},
	})
}

func TestShortEdges(t *testing.T) {
	checkShorts(t, []shortCase{
		{1, "5e-324"},
		{signBit | 1, "-5e-324"},
		{2, "1e-323"},
		{3, "1.5e-323"},
		{leastUsual - 1, "2.225073858507201e-308"},
		{leastUsual, "2.2250738585072014e-308"},
		{leastUsual + 1, "2.225073858507202e-308"},
		{greatest, "1.7976931348623157e308"},
		{signBit | greatest, "-1.7976931348623157e308"},
	})
}

// TestShortAsNear: of 1125899906842624.25 and the like two decimal numbers of 17 digits are as near.
func TestShortAsNear(t *testing.T) {
	checkShorts(t, []shortCase{
		{0x4310000000000001, "1.1258999068426242e15"},
		{0x4310000000000003, "1.1258999068426248e15"},
		{0x4310000000000005, "1.1258999068426252e15"},
		{0xC310000000000007, "-1.1258999068426258e15"},
	})
}

// TestShortNearestOfItsLength: of these there are texts one digit shorter with the same value, but none that is nearest.
func TestShortNearestOfItsLength(t *testing.T) {
	checkShorts(t, []shortCase{
		{0x3E70000000000000, "5.9604644775390625e-8"},
		{0x3D30000000000000, "5.6843418860808015e-14"},
		{0x4580000000000000, "6.1897001964269014e26"},
		{0xC580000000000000, "-6.1897001964269014e26"},
		{0x0060000000000000, "7.1202363472230444e-307"},
	})
}

func TestShortHeldAgainstExact(t *testing.T) {
	t.Parallel()
	r := rand.New(rand.NewSource(5))
	for range 800 {
		checkShort(t, r.Uint64())
		checkShort(t, r.Uint64()&^infinity)
		checkShort(t, r.Uint64()&^infinity|uint64(1000+r.Intn(120))<<52)
	}
}

func checkShort(t *testing.T, value uint64) {
	t.Helper()
	if value&^signBit == 0 || value&^signBit >= infinity {
		return
	}
	text, want := gauge.Short(value), shortOf(value)
	if text != want {
		t.Errorf("Short(%X) = %q; want %q", value, text, want)
	}
	if back, err := gauge.Number(text); back != value || err != gauge.OK {
		t.Errorf("Number(%q) = %X, %d; want %X", text, back, err, value)
	}
}

func TestShortOfPowersOfTwo(t *testing.T) {
	t.Parallel()
	for power := range 52 {
		checkShort(t, 1<<power)
	}
	for e := uint64(1); e < 2047; e++ {
		checkShort(t, e<<52)
	}
}

// TestShortOfQuarters: each number has a quarter or three behind the point, so that two texts are as near at 17 digits.
func TestShortOfQuarters(t *testing.T) {
	t.Parallel()
	r := rand.New(rand.NewSource(6))
	for range 500 {
		checkShort(t, 0x4310000000000000|uint64(r.Int63n(1<<52))|1)
	}
}
