package gauge

import (
	"container/heap"
	"sync"
)

const maxLists = 6

// PackAll tells the chunks of lists of samples (P4).
func PackAll(lists [][]Sample) ([]string, Errno) {
	if tooMany(lists) {
		return nil, ErrMany
	}
	chunks := make([]string, len(lists))
	var packers sync.WaitGroup
	for i, samples := range lists {
		packers.Add(1)
		go func() {
			defer packers.Done()
			chunks[i] = chunkOf(samples)
		}()
	}
	packers.Wait()
	return chunks, OK
}

// Merge tells the samples of lists as one list (P5).
func Merge(lists ...[]Sample) ([]Sample, Errno) {
	if tooMany(lists) {
		return nil, ErrMany
	}
	waiting := queuesOf(lists)
	var merged []Sample
	for waiting.Len() > 0 {
		merged = append(merged, waiting.next())
	}
	return merged, OK
}

func tooMany(lists [][]Sample) bool {
	if len(lists) > maxLists {
		return true
	}
	for _, samples := range lists {
		if len(samples) > maxSamples {
			return true
		}
	}
	return false
}

// queue is what is left of a list: never nothing.
type queue struct {
	left  []Sample
	place int // of the list among the lists
}

// queues are a heap: the one that gives the next sample is the first.
type queues []queue

func queuesOf(lists [][]Sample) *queues {
	waiting := new(queues)
	for place, samples := range lists {
		waiting.putBack(queue{left: samples, place: place})
	}
	return waiting
}

// next takes away the next sample.
func (q *queues) next() Sample {
	first := heap.Pop(q).(queue)
	sample := first.left[0]
	first.left = first.left[1:]
	q.putBack(first)
	return sample
}

// putBack lets a queue wait, if it is not at its end.
func (q *queues) putBack(one queue) {
	if len(one.left) > 0 {
		heap.Push(q, one)
	}
}

func (q queues) Len() int { return len(q) }

func (q queues) Less(i, j int) bool {
	a, b := q[i].left[0].T, q[j].left[0].T
	return a < b || a == b && q[i].place < q[j].place
}

func (q queues) Swap(i, j int) { q[i], q[j] = q[j], q[i] }

func (q *queues) Push(one any) { *q = append(*q, one.(queue)) }

func (q *queues) Pop() any {
	end := len(*q) - 1
	last := (*q)[end]
	*q = (*q)[:end]
	return last
}
