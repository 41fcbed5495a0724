package gauge

import (
	"math"
	"strconv"
	"strings"
)

const (
	maxNumber   = 40 // bytes of a number's text
	maxExponent = 4  // digits behind the e of a number's text

	// enoughDigits tell every float64 from its neighbours.
	enoughDigits = 17

	// noNumber is laid down by the document; the bits of math.NaN are others.
	noNumber uint64 = 0x7FF8000000000000
)

// Number tells the value of a number's text (P3).
func Number(text string) (uint64, Errno) {
	if len(text) > maxNumber {
		return 0, ErrLong
	}
	switch text {
	case "nan":
		return noNumber, OK
	case "inf":
		return math.Float64bits(math.Inf(1)), OK
	case "-inf":
		return math.Float64bits(math.Inf(-1)), OK
	}
	if !isDecimal(text) {
		return 0, ErrForm
	}
	return math.Float64bits(nearest(text)), OK
}

// isDecimal tells whether a text is a number's that is written in digits.
// The library's own reader takes more than the document does (signs, bases, underscores, other words), so it is not asked.
func isDecimal(text string) bool {
	rest, digits := cutDigits(strings.TrimPrefix(text, "-"))
	if digits == 0 {
		return false
	}
	if behind, found := strings.CutPrefix(rest, "."); found {
		rest, digits = cutDigits(behind)
		if digits == 0 {
			return false
		}
	}
	if behind, found := strings.CutPrefix(rest, "e"); found {
		rest, digits = cutDigits(cutSign(behind))
		if digits == 0 || digits > maxExponent {
			return false
		}
	}
	return rest == ""
}

// cutDigits tells what stands behind the digits that a text begins with, and how many they are.
func cutDigits(text string) (string, int) {
	digits := 0
	for digits < len(text) && '0' <= text[digits] && text[digits] <= '9' {
		digits++
	}
	return text[digits:], digits
}

// cutSign tells what stands behind the one sign that a text may begin with.
func cutSign(text string) string {
	if text != "" && (text[0] == '-' || text[0] == '+') {
		return text[1:]
	}
	return text
}

// nearest tells the float64 nearest to a decimal number, or infinity.
func nearest(decimal string) float64 {
	// Of a decimal number the only error is that it is too great, and the answer is the right infinity then.
	number, _ := strconv.ParseFloat(decimal, 64)
	return number
}

// Short tells a value's short text (P3).
func Short(value uint64) string {
	number := math.Float64frombits(value)
	switch {
	case math.IsNaN(number):
		return "nan"
	case math.IsInf(number, 1):
		return "inf"
	case math.IsInf(number, -1):
		return "-inf"
	case number == 0 && math.Signbit(number):
		return "-0"
	case number == 0:
		return "0"
	}
	return plainPower(fewestDigits(number))
}

// fewestDigits tells the nearest decimal number of as few digits as give the number back.
// The library's own shortest text is not always the nearest of its length: at a power of two, below which values lie closer than above, it may take one that is farther off, where the document goes on to one digit more.
func fewestDigits(number float64) string {
	for digits := 1; digits < enoughDigits; digits++ {
		decimal := strconv.FormatFloat(number, 'e', digits-1, 64)
		if nearest(decimal) == number {
			return decimal
		}
	}
	return strconv.FormatFloat(number, 'e', enoughDigits-1, 64)
}

// plainPower takes the plus and the noughts out of a decimal number's power of ten.
// The digits have no noughts at their end: without them they would have given the number back already.
func plainPower(decimal string) string {
	digits, power, _ := strings.Cut(decimal, "e")
	number, _ := strconv.Atoi(power)
	return digits + "e" + strconv.Itoa(number)
}
