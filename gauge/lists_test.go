package gauge_test

import (
	"math/rand"
	"runtime"
	"slices"
	"testing"
	"time"

	"gauge/gauge"
)

// checkPackedAll holds what PackAll tells against what Pack tells of each list.
func checkPackedAll(t *testing.T, lists [][]gauge.Sample) {
	t.Helper()
	chunks, err := gauge.PackAll(lists)
	if len(chunks) != len(lists) || err != gauge.OK {
		t.Fatalf("PackAll(%v) = %x, %d; want %d chunks", lists, chunks, err, len(lists))
	}
	for i, samples := range lists {
		if want, _ := gauge.Pack(samples); chunks[i] != want {
			t.Errorf("PackAll(%v) tells %x at %d, want %x", lists, chunks[i], i, want)
		}
	}
}

// plainMerge tells what the document says of Merge, by asking every list each time.
func plainMerge(lists [][]gauge.Sample) []gauge.Sample {
	lists = slices.Clone(lists)
	var merged []gauge.Sample
	for {
		first := -1
		for i, left := range lists {
			if len(left) > 0 && (first < 0 || left[0].T < lists[first][0].T) {
				first = i
			}
		}
		if first < 0 {
			return merged
		}
		merged = append(merged, lists[first][0])
		lists[first] = lists[first][1:]
	}
}

func checkMerged(t *testing.T, lists [][]gauge.Sample, want []gauge.Sample) {
	t.Helper()
	if merged, err := gauge.Merge(lists...); !slices.Equal(merged, want) || err != gauge.OK {
		t.Errorf("Merge(%v) = %v, %d; want %v", lists, merged, err, want)
	}
}

// checkTooMany checks that PackAll and Merge refuse the lists.
func checkTooMany(t *testing.T, lists [][]gauge.Sample) {
	t.Helper()
	if chunks, err := gauge.PackAll(lists); chunks != nil || err != gauge.ErrMany {
		t.Errorf("PackAll of %d lists tells %d chunks, %d; want ErrMany", len(lists), len(chunks), err)
	}
	if merged, err := gauge.Merge(lists...); merged != nil || err != gauge.ErrMany {
		t.Errorf("Merge of %d lists tells %d samples, %d; want ErrMany", len(lists), len(merged), err)
	}
}

// marked tells samples at some times, whose values tell the list and the place in it.
func marked(list uint64, times ...int) []gauge.Sample {
	var samples []gauge.Sample
	for place, time := range times {
		samples = append(samples, gauge.Sample{T: time, V: list*100 + uint64(place)})
	}
	return samples
}

// inTurn tells samples by time and value.
func inTurn(numbers ...int) []gauge.Sample {
	var samples []gauge.Sample
	for pair := range slices.Chunk(numbers, 2) {
		samples = append(samples, gauge.Sample{T: pair[0], V: uint64(pair[1])})
	}
	return samples
}

func TestMergeExample(t *testing.T) {
	checkMerged(t, [][]gauge.Sample{inTurn(1, 10, 3, 11), inTurn(1, 20, 2, 21)}, inTurn(1, 10, 1, 20, 2, 21, 3, 11))
}

func TestListsWithoutSamples(t *testing.T) {
	for count := range 7 {
		for _, lists := range [][][]gauge.Sample{
			make([][]gauge.Sample, count),
			slices.Repeat([][]gauge.Sample{{}}, count),
			slices.Repeat([][]gauge.Sample{nil, {}}, count)[:count],
		} {
			checkMerged(t, lists, nil)
			checkPackedAll(t, lists)
			chunks, _ := gauge.PackAll(lists)
			for _, chunk := range chunks {
				if chunk != "\x00\x00" {
					t.Errorf("PackAll tells %x of an empty list", chunk)
				}
			}
		}
	}
	checkMerged(t, nil, nil)
	checkPackedAll(t, nil)
}

func TestEmptyListsAmongOthers(t *testing.T) {
	full := marked(1, 5, 6)
	for count := 1; count <= 6; count++ {
		for place := range count {
			lists := make([][]gauge.Sample, count)
			lists[place] = full
			checkMerged(t, lists, full)
			checkPackedAll(t, lists)
		}
	}
	checkMerged(t, [][]gauge.Sample{nil, marked(1, 2), {}, marked(3, 1), nil}, inTurn(1, 300, 2, 100))
}

func TestHowManyLists(t *testing.T) {
	for count := 1; count <= 6; count++ {
		var lists [][]gauge.Sample
		for i := range count {
			lists = append(lists, marked(uint64(i), -i, 0, i))
		}
		checkPackedAll(t, lists)
		checkMerged(t, lists, plainMerge(lists))
	}
	for _, count := range []int{7, 8, 12, 100, 1 << 16, 1 << 20} {
		checkTooMany(t, make([][]gauge.Sample, count))
	}
	checkTooMany(t, slices.Repeat([][]gauge.Sample{marked(1, 1)}, 7))
	checkTooMany(t, slices.Repeat([][]gauge.Sample{make([]gauge.Sample, 41)}, 7))
}

func TestHowManySamples(t *testing.T) {
	for count := 1; count <= 6; count++ {
		for place := range count {
			lists := slices.Repeat([][]gauge.Sample{marked(1, 1, 2)}, count)
			for _, samples := range []int{39, 40} {
				lists[place] = make([]gauge.Sample, samples)
				checkPackedAll(t, lists)
				checkMerged(t, lists, plainMerge(lists))
			}
			for _, samples := range []int{41, 42, 80, 1 << 16} {
				lists[place] = make([]gauge.Sample, samples)
				checkTooMany(t, lists)
			}
		}
	}
	full := slices.Repeat([][]gauge.Sample{make([]gauge.Sample, 40)}, 6)
	checkPackedAll(t, full)
	checkMerged(t, full, make([]gauge.Sample, 240))
}

// What a list has behind its end does not count.
func TestListsAreAsLongAsTheySay(t *testing.T) {
	long := make([]gauge.Sample, 100)
	lists := make([][]gauge.Sample, 100)
	for i := range lists {
		lists[i] = long[:40]
	}
	checkPackedAll(t, lists[:6])
	checkMerged(t, lists[:6], make([]gauge.Sample, 240))
}

func TestMergeOfTimesThatAreTheSame(t *testing.T) {
	// Within a list they stay in its order, between lists the first list goes ahead as long as it has that time.
	checkMerged(t, [][]gauge.Sample{marked(1, 4, 4, 4)}, inTurn(4, 100, 4, 101, 4, 102))
	checkMerged(t, [][]gauge.Sample{marked(1, 4, 4), marked(2, 4, 4)}, inTurn(4, 100, 4, 101, 4, 200, 4, 201))
	checkMerged(t, [][]gauge.Sample{marked(1, 4, 5), marked(2, 4, 5), marked(3, 4, 5)},
		inTurn(4, 100, 4, 200, 4, 300, 5, 101, 5, 201, 5, 301))
	checkMerged(t, [][]gauge.Sample{marked(1, 5), marked(2, 4, 5), marked(3, 3, 4, 5)},
		inTurn(3, 300, 4, 200, 4, 301, 5, 100, 5, 201, 5, 302))
	checkMerged(t, [][]gauge.Sample{marked(1, 0), marked(2, 0), marked(3, 0), marked(4, 0), marked(5, 0), marked(6, 0)},
		inTurn(0, 100, 0, 200, 0, 300, 0, 400, 0, 500, 0, 600))
}

// A list whose times fall holds back what stands behind its next sample.
func TestMergeOfTimesThatFall(t *testing.T) {
	checkMerged(t, [][]gauge.Sample{marked(1, 5, 1)}, inTurn(5, 100, 1, 101))
	checkMerged(t, [][]gauge.Sample{marked(1, 5, 1), marked(2, 3, 9)}, inTurn(3, 200, 5, 100, 1, 101, 9, 201))
	checkMerged(t, [][]gauge.Sample{marked(1, 9, 8, 7), marked(2, 9, 8, 7)},
		inTurn(9, 100, 8, 101, 7, 102, 9, 200, 8, 201, 7, 202))
	checkMerged(t, [][]gauge.Sample{marked(1, 2, 1), marked(2, 1, 2)}, inTurn(1, 200, 2, 100, 1, 101, 2, 201))
}

func TestMergeOfTimesAtTheEndsOfInt(t *testing.T) {
	checkMerged(t, [][]gauge.Sample{marked(1, greatestInt), marked(2, leastInt)}, inTurn(leastInt, 200, greatestInt, 100))
	checkMerged(t, [][]gauge.Sample{marked(1, leastInt), marked(2, greatestInt)}, inTurn(leastInt, 100, greatestInt, 200))
	checkMerged(t, [][]gauge.Sample{marked(1, leastInt, 0, greatestInt), marked(2, leastInt, -1, greatestInt-1, greatestInt)},
		inTurn(leastInt, 100, leastInt, 200, -1, 201, 0, 101, greatestInt-1, 202, greatestInt, 102, greatestInt, 203))
	checkMerged(t, [][]gauge.Sample{marked(1, greatestInt, leastInt), marked(2, leastInt+1, greatestInt)},
		inTurn(leastInt+1, 200, greatestInt, 100, leastInt, 101, greatestInt, 201))
}

func TestMergeWhereAListEndsEarly(t *testing.T) {
	checkMerged(t, [][]gauge.Sample{marked(1, 1), marked(2, 2, 3, 4)}, inTurn(1, 100, 2, 200, 3, 201, 4, 202))
	checkMerged(t, [][]gauge.Sample{marked(1, 2, 3, 4), marked(2, 1)}, inTurn(1, 200, 2, 100, 3, 101, 4, 102))
	checkMerged(t, [][]gauge.Sample{marked(1, 1, 9), marked(2, 2), marked(3, 3, 8)}, inTurn(1, 100, 2, 200, 3, 300, 8, 301, 9, 101))
	long := marked(2)
	for time := range 40 {
		long = append(long, gauge.Sample{T: time, V: 2})
	}
	checkMerged(t, [][]gauge.Sample{marked(1, -1), long}, append(marked(1, -1), long...))
	checkMerged(t, [][]gauge.Sample{long, marked(1, -1)}, append(marked(1, -1), long...))
}

// A value has no say in what comes next, whatever it is.
func TestMergeGoesByTimesAlone(t *testing.T) {
	checkMerged(t, [][]gauge.Sample{{{T: 1, V: noNumber}, {T: 2, V: 0}}, {{T: 1, V: minusInfinity}, {T: 2, V: 1<<64 - 1}}},
		[]gauge.Sample{{T: 1, V: noNumber}, {T: 1, V: minusInfinity}, {T: 2, V: 0}, {T: 2, V: 1<<64 - 1}})
}

func TestTheSameListTwice(t *testing.T) {
	one := marked(1, 1, 1, 3, 2)
	checkMerged(t, [][]gauge.Sample{one, one}, inTurn(1, 100, 1, 101, 1, 100, 1, 101, 3, 102, 2, 103, 3, 102, 2, 103))
	// A list and its own tail share memory too.
	checkMerged(t, [][]gauge.Sample{one, one[1:]}, inTurn(1, 100, 1, 101, 1, 101, 3, 102, 2, 103, 3, 102, 2, 103))
	for count := 2; count <= 6; count++ {
		checkPackedAll(t, slices.Repeat([][]gauge.Sample{one}, count))
	}
	checkPackedAll(t, [][]gauge.Sample{one, one[1:], one[:2], one})
}

// someLists tells lists, of which some are empty, some end early, and many have times in common.
func someLists(r *rand.Rand) [][]gauge.Sample {
	lists := make([][]gauge.Sample, r.Intn(7))
	for i := range lists {
		if r.Intn(4) == 0 {
			lists[i] = someSamples(r)
			continue
		}
		for range r.Intn(41) {
			lists[i] = append(lists[i], gauge.Sample{T: r.Intn(8), V: r.Uint64()})
		}
		if r.Intn(2) == 0 {
			slices.SortStableFunc(lists[i], func(a, b gauge.Sample) int { return a.T - b.T })
		}
	}
	return lists
}

func TestMergeHeldAgainstPlain(t *testing.T) {
	r := rand.New(rand.NewSource(16))
	for range 3000 {
		lists := someLists(r)
		checkMerged(t, lists, plainMerge(lists))
	}
}

func TestPackAllHeldAgainstPack(t *testing.T) {
	r := rand.New(rand.NewSource(17))
	for range 1000 {
		checkPackedAll(t, someLists(r))
	}
}

func TestPackAllLeavesNoGoroutine(t *testing.T) {
	before := runtime.NumGoroutine()
	for range 200 {
		checkPackedAll(t, slices.Repeat([][]gauge.Sample{make([]gauge.Sample, 40)}, 6))
		checkTooMany(t, make([][]gauge.Sample, 7))
	}
	// One that has said that it is done may be counted for a moment more.
	for wait := 0; wait < 100 && runtime.NumGoroutine() > before; wait++ {
		time.Sleep(10 * time.Millisecond)
	}
	if after := runtime.NumGoroutine(); after > before {
		t.Errorf("there were %d goroutines, and %d behind PackAll", before, after)
	}
}

func TestListsOfListsAreNotWrittenInto(t *testing.T) {
	r := rand.New(rand.NewSource(18))
	for range 300 {
		lists, copies := someLists(r), [][]gauge.Sample(nil)
		for i := range lists {
			lists[i] = append(lists[i], atTimes(1, 2, 3)...)
			copies = append(copies, slices.Clone(lists[i]))
			lists[i] = lists[i][:len(lists[i])-3]
		}
		handedIn := slices.Clone(lists)
		gauge.PackAll(handedIn)
		gauge.Merge(handedIn...)
		for i := range lists {
			whole := lists[i][:len(lists[i])+3]
			if !slices.Equal(whole, copies[i]) || !slices.Equal(handedIn[i], lists[i]) {
				t.Fatalf("list %d was %v and is %v, %v", i, copies[i], whole, handedIn[i])
			}
		}
	}
}

// What stands behind a list of lists is not written into either, also where there are too many.
func TestBehindAListOfLists(t *testing.T) {
	for count := range 9 {
		lists := slices.Repeat([][]gauge.Sample{marked(1, 3, 2, 1)}, 12)
		gauge.PackAll(lists[:count])
		gauge.Merge(lists[:count]...)
		for i := range lists {
			if !slices.Equal(lists[i], marked(1, 3, 2, 1)) {
				t.Errorf("of %d lists, list %d is %v", count, i, lists[i])
			}
		}
	}
}

func TestListsOfListsAreNotKept(t *testing.T) {
	lists := [][]gauge.Sample{marked(1, 1, 2), marked(2, 1, 3)}
	chunks, _ := gauge.PackAll(lists)
	merged, _ := gauge.Merge(lists...)
	for i := range lists {
		for k := range lists[i] {
			lists[i][k] = gauge.Sample{T: 9, V: 9}
		}
		lists[i] = nil
	}
	again, _ := gauge.PackAll([][]gauge.Sample{marked(1, 1, 2), marked(2, 1, 3)})
	if !slices.Equal(chunks, again) {
		t.Errorf("PackAll's chunks are %x and %x", chunks, again)
	}
	if want := inTurn(1, 100, 1, 200, 2, 101, 3, 201); !slices.Equal(merged, want) {
		t.Errorf("Merge's list has become %v", merged)
	}
}

// A list that comes out is the caller's own, also where all of it comes from one list.
func TestMergedListsAreTheCallersOwn(t *testing.T) {
	one := marked(1, 1, 2, 3)
	for _, lists := range [][][]gauge.Sample{{one}, {one[:2]}, {nil, one}, {one, one}} {
		merged, _ := gauge.Merge(lists...)
		other, _ := gauge.Merge(lists...)
		overwrite(merged)
		checkMerged(t, [][]gauge.Sample{other}, plainMerge(lists))
		checkMerged(t, [][]gauge.Sample{one}, marked(1, 1, 2, 3))
	}
}

// overwrite writes into a list and into what stands behind it.
func overwrite[E any](list []E) {
	clear(list[:cap(list)])
}

func TestChunksAreTheCallersOwn(t *testing.T) {
	lists := [][]gauge.Sample{marked(1, 1, 2), marked(2, 3)}
	first, _ := gauge.PackAll(lists)
	second, _ := gauge.PackAll(lists)
	want := slices.Clone(second)
	overwrite(first)
	if third, _ := gauge.PackAll(lists); !slices.Equal(second, want) || !slices.Equal(third, want) {
		t.Errorf("PackAll tells %x and %x where its caller wrote into its own list", second, third)
	}
}
