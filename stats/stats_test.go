package stats

import (
	"math"
	"slices"
	"testing"

	"tallyman/api"
	"tallyman/collect"
	"tallyman/quant"
)

var (
	nan      = math.NaN()
	inf      = math.Inf(1)
	negative = math.Copysign(0, -1)
	tiny     = math.SmallestNonzeroFloat64
	scale    = quant.Scale{Low: -1, Step: 0.5, Steps: 4}
)

// bits: are two numbers the same to the bit (or both no number)?
func bits(a, b float64) bool {
	return math.Float64bits(a) == math.Float64bits(b) || a != a && b != b
}

func TestOf(t *testing.T) {
	r, e := Of(scale, collect.Result{Start: 10, Many: 3, Sums: []uint64{0, 6, 12}})
	if e != api.OK || r.Start != 10 || r.Many != 3 || !slices.Equal(r.Means, []float64{-1, 0, 1}) {
		t.Errorf("P30.1: Of: %v, %d", r, e)
	}
	if r, e := Of(scale, collect.Result{Many: 256, Sums: make([]uint64, 64)}); e != api.OK || len(r.Means) != 64 {
		t.Errorf("P30.1: Of the most: %d", e)
	}
	for i, c := range []struct {
		s    quant.Scale
		r    collect.Result
		want api.Errno
	}{
		{quant.Scale{Low: nan}, collect.Result{Code: 5}, api.ErrNaN}, {scale, collect.Result{Code: 5}, 5}, {scale, collect.Result{Code: -1, Many: 3}, -1}, {scale, collect.Result{}, api.ErrFew},
		{scale, collect.Result{Many: -1}, api.ErrFew}, {scale, collect.Result{Many: 257, Sums: make([]uint64, 65)}, api.ErrFew}, {scale, collect.Result{Many: 1 << 40}, api.ErrFew},
		{scale, collect.Result{Many: 1, Sums: make([]uint64, 65)}, api.ErrMany}, {scale, collect.Result{Many: 1, Sums: []uint64{1, 5}}, api.ErrRange},
	} {
		if r, e := Of(c.s, c.r); e != c.want || r.Many != 0 || r.Start != 0 || r.Means != nil {
			t.Errorf("P30.1: Of, case %d: %d", i, e)
		}
	}
}

func TestTable(t *testing.T) {
	var x Table
	if len(x.Rows()) != 0 {
		t.Error("P30.1: a zero Table")
	}
	if _, is := x.Column(0); is {
		t.Error("P30.1: Column of no rows")
	}
	if _, e := x.Mean(0); e != api.ErrRange {
		t.Errorf("P30.1: Mean of no rows: %d", e)
	}
	means := []float64{1, 2}
	for _, r := range []Row{{20, 1, means}, {10, 3, []float64{5, nan}}, {1 << 60, 256, []float64{0, 0}}} {
		if e := x.Add(r); e != api.OK {
			t.Errorf("P30.1: Add: %d", e)
		}
	}
	means[0] = 99
	for i, c := range []struct {
		r    Row
		want api.Errno
	}{
		{Row{20, 0, nil}, api.ErrFew}, {Row{20, 257, make([]float64, 65)}, api.ErrFew}, {Row{20, -5, nil}, api.ErrFew}, {Row{20, 1, make([]float64, 65)}, api.ErrMany},
		{Row{20, 1, nil}, api.ErrSize}, {Row{5, 1, make([]float64, 3)}, api.ErrSize}, {Row{20, 1, make([]float64, 2)}, api.ErrExists},
	} {
		if e := x.Add(c.r); e != c.want {
			t.Errorf("P30.1: Add, case %d: %d", i, e)
		}
	}
	l := x.Rows()
	if len(l) != 3 || l[0].Start != 10 || l[1].Start != 20 || l[2].Start != 1<<60 || l[1].Means[0] != 1 || l[0].Many != 3 {
		t.Errorf("P30.1: Rows: %v", l)
	}
	l[1].Means[0] = 77
	column, is := x.Column(0)
	if !is || !slices.Equal(column, []float64{5, 1, 0}) {
		t.Errorf("P30.1: Column: %v", column)
	}
	column[0] = 77
	for _, at := range []int{-1, 2, 1<<63 - 1} {
		_, is := x.Column(at)
		if _, e := x.Mean(at); is || e != api.ErrRange {
			t.Errorf("P30.1: place %d: %d", at, e)
		}
	}
	if m, e := x.Mean(0); e != api.OK || m != 16.0/260 {
		t.Errorf("P30.1: Mean: %v, %d", m, e)
	}
	if m, e := x.Mean(1); e != api.OK || m == m {
		t.Errorf("P30.1: Mean of what is no number: %v, %d", m, e)
	}
}

// The sum goes row by row, in the order of their windows.
func TestMeanIsRounded(t *testing.T) {
	var x Table
	for _, r := range []Row{{2, 1, []float64{1}}, {3, 1, []float64{-1e300}}, {1, 1, []float64{1e300}}} {
		x.Add(r)
	}
	if m, e := x.Mean(0); e != api.OK || m != 0 {
		t.Errorf("P30.1: Mean: %v, %d", m, e)
	}
	var y Table
	y.Add(Row{1, 3, []float64{0.1}})
	y.Add(Row{2, 1, []float64{0.7}})
	tenth, sevenTenths := 0.1, 0.7
	product := tenth * 3
	if m, _ := y.Mean(0); m != (product+sevenTenths)/4 {
		t.Errorf("P30.1: Mean: %v", m)
	}
}

func TestTableIsFull(t *testing.T) {
	var x Table
	for i := range uint64(32) {
		if e := x.Add(Row{i, 1, nil}); e != api.OK {
			t.Errorf("P30.1: row %d: %d", i, e)
		}
	}
	if e := x.Add(Row{0, 1, []float64{1}}); e != api.ErrMany {
		t.Errorf("P30.1: a 33rd row: %d", e)
	}
	if _, is := x.Column(0); is {
		t.Error("P30.1: rows without means")
	}
}

func TestSummarize(t *testing.T) {
	for i, c := range []struct {
		l    []float64
		want Summary
	}{
		{nil, Summary{0, nan, nan, nan}}, {[]float64{nan, nan}, Summary{0, nan, nan, nan}}, {[]float64{5}, Summary{1, 5, 5, 5}}, {[]float64{2, 1}, Summary{2, 1, 2, 1}}, {[]float64{3, nan, 1, 2}, Summary{3, 1, 3, 2}},
		{[]float64{0, negative}, Summary{2, negative, 0, negative}}, {[]float64{negative, 0, 0, negative, 0}, Summary{5, negative, 0, 0}}, {[]float64{inf, -inf, nan, 4}, Summary{3, -inf, inf, 4}}, {[]float64{4, 3, 2, 1}, Summary{4, 1, 4, 2}},
	} {
		got := Summarize(c.l)
		if got.Numbers != c.want.Numbers || !bits(got.Least, c.want.Least) || !bits(got.Most, c.want.Most) || !bits(got.Mid, c.want.Mid) {
			t.Errorf("P30.2: Summarize, case %d: %v", i, got)
		}
	}
	long := make([]float64, 5000)
	long[4095], long[4096] = 1, 2
	if got := Summarize(long); got.Numbers != 4096 || got.Most != 1 {
		t.Errorf("P30.2: Summarize of its first 4096: %v", got)
	}
	in := []float64{3, 1, 2}
	Summarize(in)
	Part(in, 0.5)
	if !slices.Equal(in, []float64{3, 1, 2}) {
		t.Error("R6: what is handed in is changed")
	}
}

func TestClampAndNear(t *testing.T) {
	for i, c := range []struct {
		x, low, high, want float64
		e                  api.Errno
	}{
		{5, 1, 9, 5, 0}, {0, 1, 9, 1, 0}, {10, 1, 9, 9, 0}, {nan, 1, 9, 1, 0}, {inf, 1, 9, 9, 0}, {-inf, -inf, 9, -inf, 0}, {3, 3, 3, 3, 0}, {negative, 0, 1, negative, 0}, {nan, negative, 1, negative, 0},
		{5, nan, 9, 0, api.ErrNaN}, {5, 9, nan, 0, api.ErrNaN}, {5, 9, 1, 0, api.ErrRange}, {5, inf, -inf, 0, api.ErrRange}, {5, inf, inf, inf, 0},
	} {
		if got, e := Clamp(c.x, c.low, c.high); e != c.e || !bits(got, c.want) {
			t.Errorf("P30.2: Clamp, case %d: %v, %d", i, got, e)
		}
	}
	for i, c := range []struct {
		a, b, by float64
		want     bool
	}{
		{1, 2, 1, true}, {2, 1, 1, true}, {1, 2, 0.5, false}, {1, 1, -1, true}, {nan, nan, 0, true}, {nan, 1, inf, false}, {inf, inf, 0, true}, {inf, -inf, inf, true}, {inf, 1, 5, false}, {1, 2, nan, false}, {0, negative, 0, true},
		{math.MaxFloat64, -math.MaxFloat64, math.MaxFloat64, false},
	} {
		if Near(c.a, c.b, c.by) != c.want {
			t.Errorf("P30.2: Near, case %d", i)
		}
	}
}

func TestHistogram(t *testing.T) {
	l := []float64{-5, 0, 0.9, 1, 2.5, 3.999, 4, 99, inf, -inf, nan, nan, negative}
	counts, none, e := Histogram(l, 0, 4, 4)
	if e != api.OK || none != 2 || !slices.Equal(counts, []int{5, 1, 1, 4}) {
		t.Errorf("P30.2: Histogram: %v, %d, %d", counts, none, e)
	}
	if counts, none, e := Histogram(nil, -1, 1, 64); e != api.OK || none != 0 || !slices.Equal(counts, make([]int, 64)) {
		t.Errorf("P30.2: Histogram of none: %v, %d", counts, e)
	}
	if counts, _, e := Histogram([]float64{0, tiny, 2 * tiny}, 0, 2*tiny, 2); e != api.OK || !slices.Equal(counts, []int{1, 2}) {
		t.Errorf("P30.2: Histogram of tiny ones: %v, %d", counts, e)
	}
	if counts, _, e := Histogram([]float64{math.MaxFloat64}, -math.MaxFloat64/2, 0, 3); e != api.OK || counts[2] != 1 {
		t.Errorf("P30.2: Histogram of what is beyond all: %v, %d", counts, e)
	}
	for i, c := range []struct {
		low, high float64
		parts     int
		many      int
		want      api.Errno
	}{
		{nan, 0, 0, 0, api.ErrNaN}, {0, nan, 0, 0, api.ErrNaN}, {1, 1, 0, 0, api.ErrRange}, {2, 1, 0, 0, api.ErrRange}, {negative, 0, 1, 0, api.ErrRange}, {0, inf, 0, 0, api.ErrRange}, {-inf, 0, 1, 0, api.ErrRange}, {inf, inf, 1, 0, api.ErrRange},
		{-math.MaxFloat64, math.MaxFloat64, 0, 0, api.ErrRange}, {0, 1, 0, 4097, api.ErrSize}, {0, 1, -1, 0, api.ErrSize}, {0, 1, 65, 0, api.ErrSize}, {0, 1, 64, 4097, api.ErrMany}, {0, 1, 64, 4096, api.OK},
	} {
		if counts, none, e := Histogram(make([]float64, c.many), c.low, c.high, c.parts); e != c.want || e != api.OK && (counts != nil || none != 0) {
			t.Errorf("P30.2: Histogram, case %d: %d", i, e)
		}
	}
}

func TestPart(t *testing.T) {
	for i, c := range []struct {
		l           []float64
		share, want float64
	}{
		{[]float64{4, 2, 1, 3}, 0, 1}, {[]float64{4, 2, 1, 3}, 1, 4}, {[]float64{4, 2, 1, 3}, 0.5, 2.5}, {[]float64{4, nan, 2}, 0.25, 2.5}, {[]float64{7}, 0.3, 7}, {nil, 0.3, nan}, {[]float64{nan}, 1, nan},
		{[]float64{1, 2, 3}, 0.5, 2}, {[]float64{-inf, 5}, 0.5, -inf}, {[]float64{5, inf}, 0.5, 5}, {[]float64{inf, inf}, 0.5, inf}, {[]float64{-inf, inf}, 0.25, -inf}, {[]float64{0, negative}, 0.5, negative}, {[]float64{0, negative}, 1, 0},
		{[]float64{-math.MaxFloat64, math.MaxFloat64}, 0.5, -math.MaxFloat64}, {[]float64{1, 2}, negative, 1}, {[]float64{0, tiny}, 0.25, 0},
	} {
		if got, e := Part(c.l, c.share); e != api.OK || !bits(got, c.want) {
			t.Errorf("P30.3: Part, case %d: %v, %d", i, got, e)
		}
	}
	for i, c := range []struct {
		share float64
		many  int
		want  api.Errno
	}{
		{nan, 5000, api.ErrNaN}, {-tiny, 5000, api.ErrRange}, {math.Nextafter(1, 2), 1, api.ErrRange}, {inf, 1, api.ErrRange}, {1, 4097, api.ErrMany}, {1, 4096, api.OK},
	} {
		if got, e := Part(make([]float64, c.many), c.share); e != c.want || got != 0 {
			t.Errorf("P30.3: Part, case %d: %d", i, e)
		}
	}
}

func TestNil(t *testing.T) {
	var x *Table
	_, e := x.Mean(0)
	if _, is := x.Column(0); is || x.Add(Row{}) != api.ErrNil || e != api.ErrNil || x.Rows() != nil {
		t.Error("R7: nil")
	}
}

func TestExamples(t *testing.T) {
	s := Summarize([]float64{nan, 2, negative, 0})
	if s.Numbers != 3 || !bits(s.Least, negative) || s.Most != 2 || !bits(s.Mid, 0) {
		t.Errorf("example: %v", s)
	}
}
