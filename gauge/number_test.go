package gauge_test

import (
	"math/big"
	"math/rand"
	"regexp"
	"strconv"
	"strings"
	"testing"

	"gauge/gauge"
)

type numberCase struct {
	text  string
	value uint64
}

func checkNumbers(t *testing.T, cases []numberCase) {
	t.Helper()
	for _, c := range cases {
		if value, err := gauge.Number(c.text); value != c.value || err != gauge.OK {
			t.Errorf("Number(%q) = %X, %d; want %X", c.text, value, err, c.value)
		}
	}
}

func TestNumberOrdinary(t *testing.T) {
	checkNumbers(t, []numberCase{
		{"1", 0x3FF0000000000000},
		{"-1", 0xBFF0000000000000},
		{"0.1", 0x3FB999999999999A},
		{"-0.1", 0xBFB999999999999A},
		{"100", 0x4059000000000000},
		{"1e2", 0x4059000000000000},
		{"1e+2", 0x4059000000000000},
		{"1e0002", 0x4059000000000000},
		{"10000e-2", 0x4059000000000000},
		{"0.01e4", 0x4059000000000000},
		{"00100.00", 0x4059000000000000},
		{"3.141592653589793", 0x400921FB54442D18},
		{"1.23456e2", 0x405EDD2F1A9FBE77},
	})
}

func TestNumberWords(t *testing.T) {
	checkNumbers(t, []numberCase{{"nan", noNumber}, {"inf", infinity}, {"-inf", signBit | infinity}})
}

func TestNumberNoughts(t *testing.T) {
	checkNumbers(t, []numberCase{
		{"0", 0},
		{"-0", signBit},
		{"000.000", 0},
		{"-000.000", signBit},
		{"0e9999", 0},
		{"-0e9999", signBit},
		{"0e-9999", 0},
		{"-0.0e-9999", signBit},
		{"1e-9999", 0},
		{"-1e-9999", signBit},
	})
}

func TestNumberSmall(t *testing.T) {
	checkNumbers(t, []numberCase{
		{"5e-324", 1},
		{"-5e-324", signBit | 1},
		{"3e-324", 1},
		{"2e-324", 0},
		{"-2e-324", signBit},
		// Half of the least value lies between these two, and so does one and a half.
		{"2.470328229206232720882843964341106e-324", 0},
		{"2.470328229206232720882843964341107e-324", 1},
		{"7.410984687618698162648531893023320e-324", 1},
		{"7.410984687618698162648531893023321e-324", 2},
		{"1e-323", 2},
		{"2.225073858507201e-308", leastUsual - 1},
		{"2.2250738585072011e-308", leastUsual - 1},
		{"2.225073858507201136057409796709131e-308", leastUsual - 1},
		{"2.225073858507201136057409796709132e-308", leastUsual},
		{"2.2250738585072014e-308", leastUsual},
		{"0.00000000000000000000000000000001e-291", 2},
	})
}

func TestNumberInfinity(t *testing.T) {
	checkNumbers(t, []numberCase{
		{"1.7976931348623157e308", greatest},
		{"-1.7976931348623157e308", signBit | greatest},
		// 2^1024 - 2^970 lies between these two.
		{"1.7976931348623158079372897140530341e308", greatest},
		{"1.7976931348623158079372897140530342e308", infinity},
		{"-1.797693134862315807937289714053034e308", signBit | greatest},
		{"-1.797693134862315807937289714053035e308", signBit | infinity},
		{"1e308", 0x7FE1CCF385EBC8A0},
		{"1e309", infinity},
		{"-1e309", signBit | infinity},
		{"1e400", infinity},
		{"9e9999", infinity},
		{"-9e9999", signBit | infinity},
		{"0.00000000000000000000000000000001e341", infinity},
		{"0.00000000000000000000000000000001e340", 0x7FE1CCF385EBC8A0},
	})
}

func TestNumberAsNear(t *testing.T) {
	checkNumbers(t, []numberCase{
		{"9007199254740992", 0x4340000000000000},
		{"9007199254740993", 0x4340000000000000},
		{"-9007199254740993", 0xC340000000000000},
		{"9007199254740994", 0x4340000000000001},
		{"9007199254740995", 0x4340000000000002},
		{"9007199254740992.99999999999999999999999", 0x4340000000000000},
		{"9007199254740993.00000000000000000000001", 0x4340000000000001},
		{"9007199254740994.99999999999999999999999", 0x4340000000000001},
		{"9007199254740995.00000000000000000000001", 0x4340000000000002},
		{"4503599627370496.5", 0x4330000000000000},
		{"4503599627370497.5", 0x4330000000000002},
		// Below a power of two the values lie closer than above it.
		{"9007199254740991.5", 0x4340000000000000},
		{"9007199254740991.4", 0x433FFFFFFFFFFFFF},
	})
}

func TestNumberLength(t *testing.T) {
	checkNumbers(t, []numberCase{
		{strings.Repeat("0", 39) + "1", 0x3FF0000000000000},
		{"1." + strings.Repeat("0", 38), 0x3FF0000000000000},
		{"1" + strings.Repeat("0", 37) + "e0", 0x479E17B84357691B},
	})
	for _, text := range []string{
		strings.Repeat("0", 40) + "1",
		"1." + strings.Repeat("0", 39),
		strings.Repeat("x", 41),
		strings.Repeat("€", 14),
		"1" + strings.Repeat(" ", 40),
		strings.Repeat("1", 1<<24),
		strings.Repeat("\x00", 1<<24),
	} {
		checkRefused(t, text, gauge.ErrLong)
	}
	checkRefused(t, strings.Repeat("x", 40), gauge.ErrForm)
	checkRefused(t, strings.Repeat("€", 13), gauge.ErrForm)
	checkRefused(t, strings.Repeat("0", 39)+".", gauge.ErrForm)
}

func checkRefused(t *testing.T, text string, want gauge.Errno) {
	t.Helper()
	if value, err := gauge.Number(text); value != 0 || err != want {
		t.Errorf("Number(%.50q) = %X, %d; want 0, %d", text, value, err, want)
	}
}

func TestNumberWrong(t *testing.T) {
	for _, text := range []string{
		"", "-", "+", ".", "e", "-.", "-e1", "e5", ".e1",
		".5", "-.5", "5.", "-5.", "5.e1", "1..5", "1.2.3", "1.-5",
		"+1", "--1", "-+1", "1-", "1+", "-+inf",
		"1e", "1e+", "1e-", "1e+-1", "1e--1", "1e++1", "1e1e1", "1e1.0", "1e.5", "1ee1", "1e1-",
		"1e12345", "1e+12345", "1e-12345", "1e00000",
		"1E5", "1p5", "0x1", "0x1p4", "0b1", "0o7", "1_0", "1e1_0", "1,5", "1f", "1i",
		"Inf", "INF", "+inf", "--inf", "infinity", "-infinity", "Infinity", "in", "inff", "inf0",
		"NaN", "NAN", "-nan", "+nan", "na", "nann", "nan0", "nan(1)",
		" 1", "1 ", "1 e5", "1\n", "\n1", "\t1", "1\x00", "\x001", "\xff", "1\xff",
		"١", "1٢", "１", "−1", "1⁄2", "½",
	} {
		checkRefused(t, text, gauge.ErrForm)
	}
}

// TestNumberForms goes through every short text of the bytes that a number's text is made of, and of some others.
func TestNumberForms(t *testing.T) {
	form := regexp.MustCompile(`\A(nan|-?inf|-?[0-9]+(\.[0-9]+)?(e[-+]?[0-9]{1,4})?)\z`)
	var walk func(text string, more int, bytes string)
	walk = func(text string, more int, bytes string) {
		value, err := gauge.Number(text)
		if form.MatchString(text) != (err == gauge.OK) || err != gauge.OK && (err != gauge.ErrForm || value != 0) {
			t.Fatalf("Number(%q) = %X, %d", text, value, err)
		}
		if more == 0 {
			return
		}
		for i := range len(bytes) {
			walk(text+bytes[i:i+1], more-1, bytes)
		}
	}
	walk("", 5, "-+.e09E_ ")
	walk("1e", 6, "-+.e05")
	walk("-1.5", 5, "-+.e05")
	walk("", 5, "-+infa")
}

func TestNumberHeldAgainstExact(t *testing.T) {
	t.Parallel()
	r := rand.New(rand.NewSource(3))
	for range 2000 {
		checkExact(t, someNumber(r))
	}
}

func checkExact(t *testing.T, text string) {
	t.Helper()
	if value, err := gauge.Number(text); err != gauge.OK || !hasValue(text, value) {
		t.Errorf("Number(%q) = %X, %d, which is not nearest", text, value, err)
	}
}

// someNumber makes a number's text of at most 40 bytes.
func someNumber(r *rand.Rand) string {
	text := []string{"", "-"}[r.Intn(2)] + someDigits(r, 1+r.Intn(16))
	if r.Intn(2) == 0 {
		text += "." + someDigits(r, 1+r.Intn(16))
	}
	switch r.Intn(4) {
	case 0:
		text += "e" + strconv.Itoa(r.Intn(700)-350)
	case 1:
		text += "e" + strconv.Itoa(r.Intn(40)-345)
	case 2:
		text += "e+" + strconv.Itoa(r.Intn(20)+290)
	}
	return text
}

func someDigits(r *rand.Rand, n int) string {
	digits := make([]byte, n)
	for i := range digits {
		digits[i] = byte('0' + r.Intn(10))
	}
	return string(digits)
}

// TestNumberBetweenNeighbours takes numbers midway between two values, and such a little above and below.
func TestNumberBetweenNeighbours(t *testing.T) {
	t.Parallel()
	r := rand.New(rand.NewSource(4))
	for power := range 64 {
		for range 10 {
			middle := new(big.Int).SetUint64(1<<53 + 2*uint64(r.Int63n(1<<52)) + 1)
			middle.Lsh(middle, uint(power))
			checkExact(t, middle.String())
			checkExact(t, middle.String()+".0")
			checkExact(t, middle.String()+".1")
			checkExact(t, new(big.Int).Sub(middle, big.NewInt(1)).String()+".9")
		}
	}
	for power := 1; power <= 20; power++ {
		for range 10 {
			middle := scaled(big.NewInt(1<<53+2*r.Int63n(1<<52)+1), 2, -power).FloatString(power)
			checkExact(t, middle)
			checkExact(t, middle+"1")
			checkExact(t, middle[:len(middle)-1]+"4")
		}
	}
}
