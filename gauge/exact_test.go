package gauge_test

// What the document says of values and texts, told once more in whole numbers and fractions of any length, so that neither the float64 nor the library's reading and writing of it is leaned on.

import (
	"math/big"
	"strconv"
	"strings"
)

const (
	signBit    uint64 = 1 << 63
	infinity   uint64 = 0x7FF0000000000000
	noNumber   uint64 = 0x7FF8000000000000
	greatest   uint64 = infinity - 1
	leastUsual uint64 = 1 << 52
)

// exactOf tells what a value without a sign is; of infinity what would come behind the greatest.
func exactOf(value uint64) *big.Rat {
	e, f := int(value>>52), int64(value&(1<<52-1))
	if e == 0 {
		return scaled(big.NewInt(f), 2, -1074)
	}
	return scaled(big.NewInt(1<<52+f), 2, e-1075)
}

// scaled tells n times base to the power.
func scaled(n *big.Int, base int64, power int) *big.Rat {
	if power < 0 {
		return new(big.Rat).SetFrac(n, powerOf(base, -power))
	}
	return new(big.Rat).SetInt(new(big.Int).Mul(n, powerOf(base, power)))
}

func powerOf(base int64, power int) *big.Int {
	return new(big.Int).Exp(big.NewInt(base), big.NewInt(int64(power)), nil)
}

// whereInfinityBegins is 2^1024 - 2^970.
func whereInfinityBegins() *big.Rat {
	return new(big.Rat).SetInt(new(big.Int).Sub(powerOf(2, 1024), powerOf(2, 970)))
}

// isValueOf tells whether a value without a sign is that of what is written.
func isValueOf(value uint64, written *big.Rat) bool {
	if written.Cmp(whereInfinityBegins()) >= 0 {
		return value == infinity
	}
	return value < infinity && !isNearer(value+1, value, written) && (value == 0 || !isNearer(value-1, value, written))
}

// isNearer tells whether a goes ahead of its neighbour b.
func isNearer(a, b uint64, written *big.Rat) bool {
	if a == infinity {
		return false
	}
	c := distance(exactOf(a), written).Cmp(distance(exactOf(b), written))
	return c < 0 || c == 0 && a&1 == 0
}

func distance(a, b *big.Rat) *big.Rat {
	d := new(big.Rat).Sub(a, b)
	return d.Abs(d)
}

// writtenBy tells what a decimal number's text says, and whether it has the sign.
func writtenBy(text string) (*big.Rat, bool) {
	text, below := strings.CutPrefix(text, "-")
	text, powerText, _ := strings.Cut(text, "e")
	whole, part, _ := strings.Cut(text, ".")
	digits, _ := new(big.Int).SetString(whole+part, 10)
	power := 0
	if powerText != "" {
		power, _ = strconv.Atoi(powerText)
	}
	return scaled(digits, 10, power-len(part)), below
}

// hasValue tells whether a value is that of a decimal number's text.
func hasValue(text string, value uint64) bool {
	written, below := writtenBy(text)
	return below == (value&signBit != 0) && isValueOf(value&^signBit, written)
}

// shortOf tells the short text of a value that is a number other than nought.
func shortOf(value uint64) string {
	sign := ""
	if value&signBit != 0 {
		sign, value = "-", value&^signBit
	}
	exact := exactOf(value)
	first := firstPower(exact)
	for n := 1; ; n++ {
		d := nearestWhole(new(big.Rat).Quo(exact, scaled(big.NewInt(1), 10, first-n+1)))
		if isValueOf(value, scaled(d, 10, first-n+1)) {
			return sign + toldShort(d.String(), first-n+1)
		}
	}
}

// firstPower tells the power of ten of a number's first digit.
func firstPower(x *big.Rat) int {
	power := len(x.Num().String()) - len(x.Denom().String())
	if x.Cmp(scaled(big.NewInt(1), 10, power)) < 0 {
		power--
	}
	return power
}

// nearestWhole tells the nearest whole number, of two that are as near the even one.
func nearestWhole(x *big.Rat) *big.Int {
	whole, rest := new(big.Int).QuoRem(x.Num(), x.Denom(), new(big.Int))
	c := rest.Lsh(rest, 1).Cmp(x.Denom())
	if c > 0 || c == 0 && whole.Bit(0) == 1 {
		whole.Add(whole, big.NewInt(1))
	}
	return whole
}

// toldShort tells digits, the last of which has this power of ten, as a short text.
func toldShort(digits string, last int) string {
	first := last + len(digits) - 1
	digits = strings.TrimRight(digits, "0")
	told := digits[:1]
	if len(digits) > 1 {
		told += "." + digits[1:]
	}
	return told + "e" + strconv.Itoa(first)
}
