package quant

import (
	"math"
	"slices"
	"testing"

	"tallyman/api"
)

var (
	nan      = math.NaN()
	inf      = math.Inf(1)
	negative = math.Copysign(0, -1)
	tiny     = math.SmallestNonzeroFloat64
	plain    = Scale{-1, 0.5, 4}
)

func TestCheckAndHigh(t *testing.T) {
	for _, c := range []struct {
		s    Scale
		want api.Errno
	}{
		{plain, api.OK}, {Scale{0, tiny, 1}, api.OK}, {Scale{negative, 1, 1 << 30}, api.OK}, {Scale{-math.MaxFloat64, math.MaxFloat64, 2}, api.ErrRange},
		{Scale{nan, 1, 1}, api.ErrNaN}, {Scale{0, nan, 0}, api.ErrNaN}, {Scale{inf, nan, 1}, api.ErrNaN},
		{Scale{inf, 1, 1}, api.ErrRange}, {Scale{-inf, 1, 1}, api.ErrRange}, {Scale{0, inf, 1}, api.ErrRange}, {Scale{0, -inf, 1}, api.ErrRange},
		{Scale{0, 0, 1}, api.ErrRange}, {Scale{0, negative, 1}, api.ErrRange}, {Scale{0, -1, 1}, api.ErrRange},
		{Scale{0, 1, 0}, api.ErrRange}, {Scale{0, 1, 1<<30 + 1}, api.ErrRange}, {Scale{0, 1, 1<<32 - 1}, api.ErrRange},
		{Scale{math.MaxFloat64, math.MaxFloat64, 1}, api.ErrRange}, {Scale{0, math.MaxFloat64, 2}, api.ErrRange}, {Scale{math.MaxFloat64, 1, 1}, api.OK},
	} {
		if got := c.s.Check(); got != c.want {
			t.Errorf("P8.1: Check of %v: %d", c.s, got)
		}
		if c.want == api.OK {
			continue
		}
		n, e1 := c.s.Whole(0)
		x, e2 := c.s.Number(0)
		y, e3 := c.s.Total(0, 1)
		z, e4 := c.s.Mean(0, 1)
		l, e5 := c.s.Vec([]float64{0})
		if e1 != c.want || e2 != c.want || e3 != c.want || e4 != c.want || e5 != c.want || n != 0 || x != 0 || y != 0 || z != 0 || l != nil {
			t.Errorf("P8.1, P8.2: of %v: %d, %d, %d, %d, %d", c.s, e1, e2, e3, e4, e5)
		}
	}
	if plain.High() != 1 || (Scale{inf, 1, 1}).High() != inf || !math.IsNaN(Scale{-inf, inf, 1}.High()) || (Scale{0.1, 0.1, 3}).High() != 0.1+0.30000000000000004 {
		t.Error("P8.1: High")
	}
}

func TestWhole(t *testing.T) {
	for x, want := range map[float64]uint32{
		-1: 0, -0.75: 0, -0.7: 1, -0.5: 1, -0.25: 2, 0: 2, 0.25: 2, 0.26: 3, 0.5: 3, 0.75: 4, 1: 4, 1.2: 4, 7: 4, -3: 0, -1.25: 0,
		inf: 4, -inf: 0, math.MaxFloat64: 4, -math.MaxFloat64: 0, tiny: 2, negative: 2,
	} {
		if n, e := plain.Whole(x); e != api.OK || n != want {
			t.Errorf("P8.1: Whole(%v) = %d, %d", x, n, e)
		}
	}
	if n, e := plain.Whole(nan); n != 0 || e != api.ErrNaN {
		t.Errorf("P8.1: Whole of no number: %d", e)
	}
	if n, e := (Scale{-math.MaxFloat64, 1, 5}).Whole(math.MaxFloat64); e != api.OK || n != 5 {
		t.Errorf("P8.1: Whole of what is beyond all less Low: %d, %d", n, e)
	}
	if n, e := (Scale{0, tiny, 1 << 30}).Whole(1); e != api.OK || n != 1<<30 {
		t.Errorf("P8.1: Whole of what is beyond all by Step: %d, %d", n, e)
	}
}

func TestVec(t *testing.T) {
	if l, e := plain.Vec([]float64{-1, 0.3, 9}); e != api.OK || !slices.Equal(l, []uint32{0, 3, 4}) {
		t.Errorf("P8.1: Vec: %v, %d", l, e)
	}
	if l, e := plain.Vec(nil); e != api.OK || len(l) != 0 {
		t.Errorf("P8.1: Vec of none: %d", e)
	}
	if l, e := plain.Vec(make([]float64, 64)); e != api.OK || len(l) != 64 {
		t.Errorf("P8.1: Vec of 64: %d", e)
	}
	if l, e := (Scale{}).Vec(make([]float64, 65)); e != api.ErrMany || l != nil {
		t.Errorf("P8.1: Vec of 65: %d", e)
	}
	if l, e := plain.Vec([]float64{1, nan}); e != api.ErrNaN || l != nil {
		t.Errorf("P8.1: Vec with what is no number: %d", e)
	}
}

func TestNumber(t *testing.T) {
	for n, want := range []float64{-1, -0.5, 0, 0.5, 1} {
		if x, e := plain.Number(uint32(n)); e != api.OK || x != want {
			t.Errorf("P8.2: Number(%d) = %v, %d", n, x, e)
		}
	}
	if x, e := plain.Number(5); x != 0 || e != api.ErrRange {
		t.Errorf("P8.2: Number above Steps: %d", e)
	}
	if x, e := (Scale{0.1, 0.1, 3}).Number(3); e != api.OK || x != 0.1+0.30000000000000004 {
		t.Errorf("P8.2: each step is rounded: %v", x)
	}
	x, _ := Scale{negative, 1, 1}.Number(0)
	if math.Signbit(x) {
		t.Error("P8.2: nought has no sign")
	}
}

func TestTotalAndMean(t *testing.T) {
	if x, e := plain.Total(7, 3); e != api.OK || x != 0.5 {
		t.Errorf("P8.2: Total: %v, %d", x, e)
	}
	if x, e := plain.Mean(6, 3); e != api.OK || x != 0 || math.Signbit(x) {
		t.Errorf("P8.2: Mean: %v, %d", x, e)
	}
	if x, e := plain.Total(0, 0); e != api.OK || x != 0 || math.Signbit(x) {
		t.Errorf("P8.2: Total of none: %v, %d", x, e)
	}
	for _, c := range [][2]uint64{{13, 3}, {1, 0}, {1<<64 - 1, 1<<32 - 1}} {
		if x, e := plain.Total(c[0], uint32(c[1])); x != 0 || e != api.ErrRange {
			t.Errorf("P8.2: Total(%d, %d): %v, %d", c[0], c[1], x, e)
		}
	}
	if _, e := plain.Total(12, 3); e != api.OK {
		t.Errorf("P8.2: Total of the most: %d", e)
	}
	if x, e := (Scale{nan, 1, 1}).Mean(1, 0); x != 0 || e != api.ErrDivide {
		t.Errorf("R2: Mean of none: %d", e)
	}
	far := Scale{-math.MaxFloat64, 1, 1 << 30}
	if _, e := far.Total(0, 2); e != api.ErrRange {
		t.Errorf("P8.2: Total beyond all: %d", e)
	}
	apart := Scale{-math.MaxFloat64, math.MaxFloat64, 1}
	if _, e := apart.Total(2, 2); e != api.ErrRange {
		t.Errorf("P8.2: Total that is no number: %d", e)
	}
	if _, e := apart.Mean(2, 2); e != api.ErrRange {
		t.Errorf("P8.2: Mean that is no number: %d", e)
	}
	small := Scale{-tiny, tiny, 3}
	if x, e := small.Mean(1, 2); e != api.OK || x != 0 || math.Signbit(x) {
		t.Errorf("P8.2: nought that comes of what is below has no sign: %v, %d", x, e)
	}
}

func TestBitsSameCompare(t *testing.T) {
	other := math.Float64frombits(math.Float64bits(nan) ^ 1<<63 ^ 5)
	if Bits(negative) != 0 || Bits(0) != 0 || Bits(other) != math.Float64bits(nan) || Bits(-inf) != math.Float64bits(-inf) || Bits(-tiny) != 1<<63|1 {
		t.Error("P8.3: Bits")
	}
	rising := []float64{nan, -inf, -1, -tiny, 0, tiny, 1, inf}
	for i, a := range rising {
		for j, b := range rising {
			if Same(a, b) != (i == j) {
				t.Errorf("P8.3: Same(%v, %v)", a, b)
			}
			want := 0
			if i < j {
				want = -1
			} else if i > j {
				want = 1
			}
			if Compare(a, b) != want {
				t.Errorf("P8.3: Compare(%v, %v) = %d", a, b, Compare(a, b))
			}
		}
	}
	if !Same(0, negative) || Compare(negative, 0) != 0 || !Same(nan, other) || Compare(other, nan) != 0 {
		t.Error("P8.3: noughts, and what is no number")
	}
}

func TestExamples(t *testing.T) {
	if n, e := plain.Whole(-0.25); e != api.OK || n != 2 {
		t.Errorf("example: Whole(-0.25) = %d, %d", n, e)
	}
}
