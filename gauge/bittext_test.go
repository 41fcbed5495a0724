package gauge_test

// What the document says of chunks, told once more in texts of noughts and ones, so that neither the program's bits nor its windows are leaned on.

import (
	"strconv"
	"strings"

	"gauge/gauge"
)

// bytesOf tells the bytes of a text of noughts and ones (blanks are left out), filled up with noughts.
func bytesOf(text string) string {
	text = strings.ReplaceAll(text, " ", "")
	text += strings.Repeat("0", (8-len(text)%8)%8)
	var told []byte
	for ; len(text) > 0; text = text[8:] {
		n, err := strconv.ParseUint(text[:8], 2, 8)
		if err != nil {
			panic(err)
		}
		told = append(told, byte(n))
	}
	return string(told)
}

// digitsOf tells the lowest bits of a number, as many as are asked for.
func digitsOf(n uint64, count int) string {
	digits := strings.Repeat("0", 64) + strconv.FormatUint(n, 2)
	return digits[len(digits)-count:]
}

func allDigits(n uint64) string {
	return digitsOf(n, 64)
}

// headOf tells what a chunk begins with: how many samples it has, and the first one.
func headOf(count int, first gauge.Sample) string {
	return digitsOf(uint64(count), 16) + allDigits(uint64(first.T)) + allDigits(first.V)
}

// changeText tells DD in a chunk.
func changeText(change int64) string {
	all := allDigits(uint64(change))
	switch {
	case change == 0:
		return "0"
	case change >= -64 && change <= 63:
		return "10" + all[64-7:]
	case change >= -256 && change <= 255:
		return "110" + all[64-9:]
	case change >= -2048 && change <= 2047:
		return "1110" + all[64-12:]
	}
	return "1111" + all
}

// textWindow is from where to where the noughts and ones of X are told.
type textWindow struct {
	from, to int
	there    bool
}

func (w textWindow) fits(all string) bool {
	return w.there && !strings.Contains(all[:w.from]+all[w.to:], "1")
}

func tightWindow(all string) textWindow {
	return textWindow{min(strings.Index(all, "1"), 31), strings.LastIndex(all, "1") + 1, true}
}

// inWindow tells X by the window that there is.
func (w textWindow) inWindow(all string) string {
	return "10" + all[w.from:w.to]
}

// withWindow tells X with a window of its own.
func (w textWindow) withWindow(all string) string {
	return "11" + digitsOf(uint64(w.from), 5) + digitsOf(uint64(w.to-w.from-1), 6) + all[w.from:w.to]
}

// valueText tells X in a chunk, and the window from then on.
func valueText(x uint64, w textWindow) (string, textWindow) {
	all := allDigits(x)
	if x == 0 {
		return "0", w
	}
	if w.fits(all) {
		return w.inWindow(all), w
	}
	w = tightWindow(all)
	return w.withWindow(all), w
}

// chunkText tells a chunk, not filled up.
func chunkText(samples []gauge.Sample) string {
	if len(samples) == 0 {
		return digitsOf(0, 16)
	}
	text := headOf(len(samples), samples[0])
	var window textWindow
	ahead := int64(0)
	for i := 1; i < len(samples); i++ {
		d := int64(uint64(samples[i].T) - uint64(samples[i-1].T))
		value, next := valueText(samples[i].V^samples[i-1].V, window)
		text += changeText(int64(uint64(d)-uint64(ahead))) + value
		window, ahead = next, d
	}
	return text
}
