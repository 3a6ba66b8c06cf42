package circuit

import (
	"tallyman/api"
)

// Measure is what is measured: numbers, as many as are summed (a Histogram: the place of the 1 alone).
type Measure []uint64

// Encode: what is measured as a vector.
func (c Circuit) Encode(m Measure) ([]api.Elem, api.Errno) {
	if e := c.Check(); e != api.OK {
		return nil, e
	}
	if len(m) != c.measured() {
		return nil, api.ErrSize
	}
	if !c.fits(m) {
		return nil, api.ErrRange
	}
	in := make([]api.Elem, 0, c.in())
	switch c.Kind {
	case Sum, SumVec:
		for _, n := range m {
			in = append(in, c.bitsOf(n, c.Bits)...)
		}
	case Histogram:
		in = in[:c.Length]
		in[m[0]] = c.Field.One()
	default:
		for _, n := range m {
			in = append(in, c.Field.Of(n))
		}
	}
	if c.Kind == Multihot {
		in = append(in, c.bitsOf(added(m)+c.offset(), c.weightBits())...)
	}
	return in, api.OK
}

// measured is how many numbers are measured.
func (c Circuit) measured() int {
	if c.Kind == Histogram {
		return 1
	}
	return c.Out()
}

// fits: is no number of what is measured too great?
func (c Circuit) fits(m Measure) bool {
	if c.Kind == Histogram {
		return m[0] < uint64(c.Length)
	}
	most := c.Most()
	for _, n := range m {
		if n > most {
			return false
		}
	}
	return c.Kind != Multihot || added(m) <= uint64(c.Weight)
}

// added is the sum of numbers.
func added(m Measure) uint64 {
	var sum uint64
	for _, n := range m {
		sum += n
	}
	return sum
}

// bitsOf is a number's bits as elements, the lowest first.
func (c Circuit) bitsOf(n uint64, many int) []api.Elem {
	l := make([]api.Elem, many)
	for i := range l {
		l[i] = c.Field.Of(n >> uint(i) & 1)
	}
	return l
}

// number is what bits say, the lowest first; of shares of bits a share of that.
func (c Circuit) number(in []api.Elem) api.Elem {
	f := c.Field
	n, _ := f.Dot(in, f.Powers(f.Of(2), len(in)))
	return n
}

// Truncate: what of a vector is summed.
func (c Circuit) Truncate(in []api.Elem) ([]api.Elem, api.Errno) {
	if e := c.Check(); e != api.OK {
		return nil, e
	}
	if len(in) != c.in() {
		return nil, api.ErrSize
	}
	out := make([]api.Elem, c.Out())
	for i := range out {
		if c.Kind == Sum || c.Kind == SumVec {
			out[i] = c.number(in[i*c.Bits : (i+1)*c.Bits])
		} else {
			out[i] = c.Field.Sum(in[i])
		}
	}
	return out, api.OK
}

// Decode: sums of so many as numbers; what is greater than it can be is an error.
func (c Circuit) Decode(sums []api.Elem, many int) ([]uint64, api.Errno) {
	if e := c.Check(); e != api.OK {
		return nil, e
	}
	if len(sums) != c.Out() {
		return nil, api.ErrSize
	}
	if many < 0 || many > api.MaxReports {
		return nil, api.ErrRange
	}
	most := uint64(many) * c.Most()
	numbers := make([]uint64, len(sums))
	for i, a := range sums {
		if !c.Field.In(a) || a[1] != 0 || a[0] > most {
			return nil, api.ErrRange
		}
		numbers[i] = a[0]
	}
	return numbers, api.OK
}
