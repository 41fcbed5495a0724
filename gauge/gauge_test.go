package gauge_test

import (
	"testing"

	"gauge/gauge"
)

// The calls keep the document's signatures: this file does not build otherwise.
var (
	_ func(string) (uint64, gauge.Errno)                            = gauge.Number
	_ func(uint64) string                                           = gauge.Short
	_ func([]gauge.Sample) (string, gauge.Errno)                    = gauge.Pack
	_ func(string) ([]gauge.Sample, gauge.Errno)                    = gauge.Unpack
	_ func([][]gauge.Sample) ([]string, gauge.Errno)                = gauge.PackAll
	_ func(...[]gauge.Sample) ([]gauge.Sample, gauge.Errno)         = gauge.Merge
	_ func(int, int) (*gauge.Meter, gauge.Errno)                    = gauge.New
	_ func(*gauge.Meter, int) gauge.Errno                           = (*gauge.Meter).Tick
	_ func(*gauge.Meter, int, uint64) gauge.Errno                   = (*gauge.Meter).Add
	_ func(*gauge.Meter, int) (int, gauge.Errno)                    = (*gauge.Meter).Count
	_ func(*gauge.Meter, int, int, int) (uint64, gauge.Errno)       = (*gauge.Meter).Quantile
	_ func(*gauge.Meter, uint64, uint64, int, int, int) gauge.Errno = (*gauge.Meter).Rule
	_ func(*gauge.Meter, int, int, int) (int, gauge.Errno)          = (*gauge.Meter).Decide
	_ struct {
		T int
		V uint64
	} = gauge.Sample{}
)

func TestErrorNumbers(t *testing.T) {
	for want, got := range []gauge.Errno{
		gauge.OK, gauge.ErrLong, gauge.ErrForm, gauge.ErrMany, gauge.ErrChunk,
		gauge.ErrArg, gauge.ErrValue, gauge.ErrOld, gauge.ErrSoon, gauge.ErrEmpty,
	} {
		if int(got) != want {
			t.Errorf("error %d has the number %d", want, got)
		}
	}
}
