package gauge

import "math"

const maxWorkers = 100

// rule is by what Decide decides.
type rule struct {
	low   float64
	high  float64
	least int
	most  int
	rest  int
}

// Rule sets by what Decide decides (P8).
func (m *Meter) Rule(low uint64, high uint64, least int, most int, rest int) Errno {
	if isNoNumber(low) || isNoNumber(high) {
		return ErrValue
	}
	given := rule{low: math.Float64frombits(low), high: math.Float64frombits(high), least: least, most: most, rest: rest}
	if !given.mayBe() {
		return ErrArg
	}
	m.rule = &given
	m.workers = min(max(m.workers, least), most)
	return OK
}

func (r rule) mayBe() bool {
	return r.low <= r.high && 1 <= r.least && r.least <= r.most && r.most <= maxWorkers && 0 <= r.rest && r.rest <= maxTime
}

// Decide tells how many workers there are from now on (P8).
func (m *Meter) Decide(k int, a int, b int) (int, Errno) {
	if m.rule == nil {
		return 0, ErrArg
	}
	quantile, err := m.Quantile(k, a, b)
	if err == ErrArg {
		return 0, ErrArg
	}
	if err != ErrEmpty && m.clock-m.changed >= m.rule.rest {
		m.change(m.rule.wanted(m.workers, math.Float64frombits(quantile)))
	}
	return m.workers, OK
}

// wanted tells how many workers there should be, where no rest holds back a change.
func (r rule) wanted(workers int, quantile float64) int {
	if quantile > r.high && workers < r.most {
		return workers + 1
	}
	if quantile < r.low && workers > r.least {
		return workers - 1
	}
	return workers
}

// change lets a rest begin only where the workers become others.
func (m *Meter) change(workers int) {
	if workers != m.workers {
		m.workers, m.changed = workers, m.clock
	}
}
