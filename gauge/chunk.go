package gauge

import "math/bits"

const (
	maxSamples = 40 // of a list

	countBits = 16 // how many samples a chunk has
	wordBits  = 64 // a time or a value as it is
	aheadBits = 5  // how many bits stand ahead of a window
	widthBits = 6  // how wide a window is, less 1

	maxAhead = 1<<aheadBits - 1
)

// changeWidths tells how many bits the change of a step takes, by how many bits 1 stand ahead of it.
var changeWidths = [...]int{0, 7, 9, 12, wordBits}

// Pack tells the chunk of some samples (P4).
func Pack(samples []Sample) (string, Errno) {
	if len(samples) > maxSamples {
		return "", ErrMany
	}
	return chunkOf(samples), OK
}

// Unpack tells the samples of a chunk (P4).
func Unpack(chunk string) ([]Sample, Errno) {
	samples, found := readSamples(chunk)
	// Other bits than Pack's can be read as the same samples: a step told in more bits than it needs, a window told anew, bytes behind the end.
	if !found || chunkOf(samples) != chunk {
		return nil, ErrChunk
	}
	return samples, OK
}

func chunkOf(samples []Sample) string {
	var out bitWriter
	writeSamples(&out, samples)
	return string(out.bytes)
}

func writeSamples(out *bitWriter, samples []Sample) {
	defer out.fillUp()
	out.write(uint64(len(samples)), countBits)
	if len(samples) == 0 {
		return
	}
	out.write(uint64(samples[0].T), wordBits)
	out.write(samples[0].V, wordBits)
	seen := trail{last: samples[0]}
	for _, sample := range samples[1:] {
		seen.writeTime(out, sample.T)
		seen.writeValue(out, sample.V)
	}
}

// readSamples tells the samples that bits can be read as, if there are such.
func readSamples(chunk string) (samples []Sample, found bool) {
	defer func() {
		if reason := recover(); reason != nil {
			if _, own := reason.(tooFewBits); !own {
				panic(reason)
			}
			samples, found = nil, false
		}
	}()
	in := bitReader{bytes: chunk}
	count := int(in.read(countBits))
	if count > maxSamples {
		return nil, false
	}
	if count == 0 {
		return nil, true
	}
	var seen trail
	seen.last.T = int(in.read(wordBits))
	seen.last.V = in.read(wordBits)
	samples = append(samples, seen.last)
	for range count - 1 {
		seen.readTime(&in)
		seen.readValue(&in)
		samples = append(samples, seen.last)
	}
	return samples, true
}

// trail is what writer and reader know of the samples ahead.
type trail struct {
	last   Sample
	step   int // by how much the last time is behind the one ahead of it
	window window
}

func (t *trail) writeTime(out *bitWriter, time int) {
	step := time - t.last.T
	change := step - t.step
	kind := changeKind(change)
	for range kind {
		out.write(1, 1)
	}
	if kind < len(changeWidths)-1 {
		out.write(0, 1)
	}
	out.write(uint64(change), changeWidths[kind])
	t.last.T, t.step = time, step
}

func (t *trail) readTime(in *bitReader) {
	kind := 0
	for kind < len(changeWidths)-1 && in.read(1) == 1 {
		kind++
	}
	width := changeWidths[kind]
	t.step += signed(in.read(width), width)
	t.last.T += t.step
}

// changeKind tells the first kind whose bits are enough for a change.
func changeKind(change int) int {
	kind := 0
	for signed(uint64(change), changeWidths[kind]) != change {
		kind++
	}
	return kind
}

// signed tells what a number's lowest bits are, as many as the width, if the highest of them is a sign.
func signed(number uint64, width int) int {
	above := wordBits - width
	return int(int64(number<<above) >> above)
}

func (t *trail) writeValue(out *bitWriter, value uint64) {
	turned := value ^ t.last.V
	t.last.V = value
	if turned == 0 {
		out.write(0, 1)
		return
	}
	out.write(1, 1)
	if t.window.fits(turned) {
		out.write(0, 1)
	} else {
		t.window = windowOf(turned)
		out.write(1, 1)
		out.write(uint64(t.window.ahead), aheadBits)
		out.write(uint64(t.window.width-1), widthBits)
	}
	out.write(turned>>t.window.behind(), t.window.width)
}

func (t *trail) readValue(in *bitReader) {
	if in.read(1) == 0 {
		return
	}
	if in.read(1) == 1 {
		t.window.ahead = int(in.read(aheadBits))
		t.window.width = int(in.read(widthBits)) + 1
	}
	if t.window.behind() < 0 {
		// A value has not as many bits as such a window asks for.
		panic(tooFewBits{})
	}
	t.last.V ^= in.read(t.window.width) << t.window.behind()
}

// window is which bits of a turned value are written down. Its width is 0 as long as there is none.
type window struct {
	ahead int
	width int
}

// windowOf tells the window for a turned value that has a bit 1.
func windowOf(turned uint64) window {
	ahead := min(bits.LeadingZeros64(turned), maxAhead)
	return window{ahead: ahead, width: wordBits - ahead - bits.TrailingZeros64(turned)}
}

// fits tells whether a window leaves out no bit 1 of a turned value that has one: where there is no window, it does not.
func (w window) fits(turned uint64) bool {
	return bits.LeadingZeros64(turned) >= w.ahead && bits.TrailingZeros64(turned) >= w.behind()
}

func (w window) behind() int {
	return wordBits - w.ahead - w.width
}
