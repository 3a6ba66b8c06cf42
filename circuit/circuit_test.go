package circuit

import (
	"math/rand"
	"slices"
	"testing"

	"tallyman/api"
	"tallyman/field"
	"tallyman/gadget"
)

var fields = []field.Field{field.Small, field.Large}

func drawn(f field.Field, r *rand.Rand, many int) []api.Elem {
	l := make([]api.Elem, many)
	for i := range l {
		l[i] = f.Add(api.Elem{r.Uint64(), r.Uint64()}, api.Elem{})
	}
	return l
}

// right are circuits of each kind.
func right(f field.Field) []Circuit {
	return []Circuit{
		{Kind: Count, Field: f}, {Kind: Sum, Field: f, Bits: 1}, {Kind: Sum, Field: f, Bits: 32},
		{Kind: SumVec, Field: f, Bits: 3, Length: 5, Chunk: 4}, {Kind: SumVec, Field: f, Bits: 32, Length: 64, Chunk: 5}, {Kind: SumVec, Field: f, Bits: 1, Length: 1, Chunk: 16},
		{Kind: Histogram, Field: f, Length: 5, Chunk: 2}, {Kind: Histogram, Field: f, Length: 64, Chunk: 1},
		{Kind: Multihot, Field: f, Length: 3, Weight: 2, Chunk: 2}, {Kind: Multihot, Field: f, Length: 64, Weight: 64, Chunk: 16}, {Kind: Multihot, Field: f, Length: 7, Weight: 3, Chunk: 10},
	}
}

func TestCheck(t *testing.T) {
	if Count != 1 || Sum != 2 || SumVec != 3 || Histogram != 4 || Multihot != 5 {
		t.Error("the kinds' numbers")
	}
	for _, f := range fields {
		for _, c := range right(f) {
			if e := c.Check(); e != api.OK {
				t.Errorf("P10.1: Check of %v: %d", c, e)
			}
		}
		for _, c := range []Circuit{
			{Kind: Sum, Field: f}, {Kind: Sum, Field: f, Bits: 33}, {Kind: Sum, Field: f, Bits: -1}, {Kind: Count, Field: f, Bits: 1}, {Kind: Count, Field: f, Chunk: 1},
			{Kind: Count, Field: f, Length: 1}, {Kind: Count, Field: f, Weight: 1}, {Kind: Sum, Field: f, Bits: 1, Length: 1}, {Kind: SumVec, Field: f, Bits: 1, Length: 65, Chunk: 1},
			{Kind: SumVec, Field: f, Bits: 1, Length: 1}, {Kind: SumVec, Field: f, Bits: 1, Length: 1, Chunk: 17}, {Kind: SumVec, Field: f, Bits: 1, Length: 1, Chunk: 1, Weight: 1},
			{Kind: SumVec, Field: f, Length: 1, Chunk: 1}, {Kind: Histogram, Field: f, Chunk: 1}, {Kind: Histogram, Field: f, Length: 1, Chunk: 1, Bits: 1},
			{Kind: Multihot, Field: f, Length: 3, Chunk: 1}, {Kind: Multihot, Field: f, Length: 3, Weight: 4, Chunk: 1}, {Kind: Multihot, Field: f, Length: -3, Weight: -4, Chunk: -1},
		} {
			if e := c.Check(); e != api.ErrRange {
				t.Errorf("P10.1: Check of %v: %d", c, e)
			}
		}
		if e := (Circuit{Kind: SumVec, Field: f, Bits: 32, Length: 64, Chunk: 4}).Check(); e != api.ErrMany {
			t.Errorf("P10.1: Check of too many calls: %d", e)
		}
		if e := (Circuit{Kind: SumVec, Field: f, Bits: 8, Length: 64, Chunk: 1}).Check(); e != api.ErrMany {
			t.Errorf("P10.1: Check of 512 calls: %d", e)
		}
		if e := (Circuit{Kind: SumVec, Field: f, Bits: 7, Length: 63, Chunk: 1}).Check(); e != api.OK {
			t.Errorf("P10.1: Check of 441 calls: %d", e)
		}
		for _, kind := range []Kind{0, 6, 255} {
			if e := (Circuit{Kind: kind, Field: f, Bits: 99}).Check(); e != api.ErrKind {
				t.Errorf("P10.1: Check of kind %d: %d", kind, e)
			}
		}
	}
	if e := (Circuit{Field: 3}).Check(); e != api.ErrField {
		t.Errorf("P10.1: Check of no field: %d", e)
	}
}

// What isn't right answers errors, and ends.
func TestWhatIsNotRight(t *testing.T) {
	for _, c := range []Circuit{{}, {Kind: SumVec, Field: 1}, {Kind: Histogram, Field: 1, Length: 3}, {Kind: Multihot, Field: 2, Length: 1 << 62, Weight: -1 << 63}, {Kind: Sum, Field: 2, Bits: -1 << 63}} {
		c.In()
		c.Out()
		c.Gadget()
		c.Calls()
		c.Joint()
		c.Domain()
		c.Proof()
		c.Verifier()
		c.Most()
		want := c.Check()
		_, e1 := c.Encode(Measure{1})
		_, e2 := c.Truncate(make([]api.Elem, 3))
		_, e3 := c.Decode(make([]api.Elem, 3), -1)
		_, e4 := c.Run(nil, nil, 0, nil)
		if want == api.OK || e1 != want || e2 != want || e3 != want || e4 != want || c.Valid(nil) {
			t.Errorf("P10.2, P10.3: of %v: %d, %d, %d, %d", c, e1, e2, e3, e4)
		}
	}
}

func TestTable(t *testing.T) {
	f := field.Small
	for i, want := range []struct {
		in, out, calls, joint, domain, proof, verifier int
		most                                           uint64
	}{
		{1, 1, 1, 0, 2, 5, 4, 1}, {1, 1, 1, 1, 2, 4, 3, 1}, {32, 1, 32, 1, 64, 128, 3, 1<<32 - 1},
		{15, 5, 4, 4, 8, 23, 10, 7}, {2048, 64, 410, 410, 512, 1033, 12, 1<<32 - 1}, {1, 1, 1, 1, 2, 35, 34, 1},
		{5, 5, 3, 4, 4, 11, 6, 1}, {64, 64, 64, 65, 128, 257, 4, 1},
		{5, 3, 3, 4, 4, 11, 6, 1}, {71, 64, 5, 6, 8, 47, 34, 1}, {9, 7, 1, 2, 2, 23, 22, 1},
	} {
		c := right(f)[i]
		if c.In() != want.in || c.Out() != want.out || c.Calls() != want.calls || c.Joint() != want.joint || c.Domain() != want.domain || c.Proof() != want.proof || c.Verifier() != want.verifier || c.Most() != want.most {
			t.Errorf("P10.1: %v: %d %d %d %d %d %d %d %d", c, c.In(), c.Out(), c.Calls(), c.Joint(), c.Domain(), c.Proof(), c.Verifier(), c.Most())
		}
	}
	for _, f := range fields {
		if g := (Circuit{Kind: Count, Field: f}).Gadget(); g.Kind != gadget.Mul {
			t.Error("P10.1: Gadget of Count")
		}
		if g := (Circuit{Kind: Sum, Field: f, Bits: 2}).Gadget(); g.Kind != gadget.Eval || !slices.Equal(g.Coefs, gadget.Bit(f).Coefs) {
			t.Error("P10.1: Gadget of Sum")
		}
		if g := (Circuit{Kind: Histogram, Field: f, Length: 9, Chunk: 3}).Gadget(); g.Kind != gadget.Parallel || g.Many != 3 {
			t.Error("P10.1: Gadget of Histogram")
		}
	}
}

func numbers(l ...uint64) []api.Elem {
	var r []api.Elem
	for _, n := range l {
		r = append(r, api.Elem{n})
	}
	return r
}

func TestEncodeAndTruncate(t *testing.T) {
	for _, f := range fields {
		for _, x := range []struct {
			c       Circuit
			m       Measure
			in, out []api.Elem
		}{
			{Circuit{Kind: Count, Field: f}, Measure{1}, numbers(1), numbers(1)},
			{Circuit{Kind: Sum, Field: f, Bits: 4}, Measure{6}, numbers(0, 1, 1, 0), numbers(6)},
			{Circuit{Kind: SumVec, Field: f, Bits: 2, Length: 3, Chunk: 4}, Measure{1, 2, 3}, numbers(1, 0, 0, 1, 1, 1), numbers(1, 2, 3)},
			{Circuit{Kind: Histogram, Field: f, Length: 4, Chunk: 1}, Measure{2}, numbers(0, 0, 1, 0), numbers(0, 0, 1, 0)},
			{Circuit{Kind: Multihot, Field: f, Length: 3, Weight: 2, Chunk: 1}, Measure{0, 1, 0}, numbers(0, 1, 0, 0, 1), numbers(0, 1, 0)},
			{Circuit{Kind: Multihot, Field: f, Length: 4, Weight: 4, Chunk: 1}, Measure{0, 0, 0, 0}, numbers(0, 0, 0, 0, 1, 1, 0), numbers(0, 0, 0, 0)},
		} {
			in, e := x.c.Encode(x.m)
			if e != api.OK || !slices.Equal(in, x.in) || !x.c.Valid(in) {
				t.Errorf("P10.2: Encode of %v by %v: %v, %d", x.m, x.c, in, e)
			}
			if out, e := x.c.Truncate(x.in); e != api.OK || !slices.Equal(out, x.out) {
				t.Errorf("P10.2: Truncate of %v: %v, %d", x.in, out, e)
			}
			_, e1 := x.c.Truncate(x.in[1:])
			_, e2 := x.c.Encode(append(slices.Clone(x.m), 99))
			_, e3 := x.c.Encode(nil)
			if e1 != api.ErrSize || e2 != api.ErrSize || e3 != api.ErrSize {
				t.Errorf("P10.2: ErrSize of %v: %d, %d, %d", x.c, e1, e2, e3)
			}
		}
		for _, x := range []struct {
			c Circuit
			m Measure
		}{
			{Circuit{Kind: Count, Field: f}, Measure{2}}, {Circuit{Kind: Sum, Field: f, Bits: 4}, Measure{16}}, {Circuit{Kind: SumVec, Field: f, Bits: 2, Length: 2, Chunk: 4}, Measure{1, 4}},
			{Circuit{Kind: Histogram, Field: f, Length: 4, Chunk: 1}, Measure{4}}, {Circuit{Kind: Histogram, Field: f, Length: 4, Chunk: 1}, Measure{1<<64 - 1}},
			{Circuit{Kind: Multihot, Field: f, Length: 3, Weight: 2, Chunk: 1}, Measure{1, 1, 1}}, {Circuit{Kind: Multihot, Field: f, Length: 3, Weight: 2, Chunk: 1}, Measure{2, 0, 0}},
			{Circuit{Kind: Multihot, Field: f, Length: 3, Weight: 2, Chunk: 1}, Measure{1<<64 - 1, 1, 1}},
		} {
			if in, e := x.c.Encode(x.m); in != nil || e != api.ErrRange {
				t.Errorf("P10.2: Encode of %v by %v: %d", x.m, x.c, e)
			}
		}
		if in, e := (Circuit{Kind: Sum, Field: f, Bits: 32}).Encode(Measure{1<<32 - 1}); e != api.OK || len(in) != 32 {
			t.Errorf("P10.2: Encode of the greatest: %d", e)
		}
	}
}

func TestDecode(t *testing.T) {
	for _, f := range fields {
		c := Circuit{Kind: SumVec, Field: f, Bits: 3, Length: 2, Chunk: 2}
		if l, e := c.Decode(numbers(21, 0), 3); e != api.OK || !slices.Equal(l, []uint64{21, 0}) {
			t.Errorf("P10.2: Decode: %v, %d", l, e)
		}
		if l, e := c.Decode(numbers(0, 0), 0); e != api.OK || len(l) != 2 {
			t.Errorf("P10.2: Decode of none: %d", e)
		}
		if _, e := c.Decode(numbers(1792, 0), 256); e != api.OK {
			t.Errorf("P10.2: Decode of 256: %d", e)
		}
		_, e1 := c.Decode(numbers(22, 0), 3)
		_, e2 := c.Decode(numbers(0, 0), 257)
		_, e3 := c.Decode(numbers(0, 0), -1)
		_, e4 := c.Decode([]api.Elem{{}, {0, 1}}, 3)
		_, e5 := c.Decode([]api.Elem{{}, f.Neg(f.One())}, 3)
		if e1 != api.ErrRange || e2 != api.ErrRange || e3 != api.ErrRange || e4 != api.ErrRange || e5 != api.ErrRange {
			t.Errorf("P10.2: Decode: %d, %d, %d, %d, %d", e1, e2, e3, e4, e5)
		}
		if _, e := c.Decode(numbers(0), -1); e != api.ErrSize {
			t.Errorf("P10.2: Decode of one: %d", e)
		}
	}
}

func direct(c Circuit) Call {
	return func(in []api.Elem) (api.Elem, api.Errno) { return c.Gadget().Of(c.Field, in) }
}

// told is Run as the chapter tells it, of one share.
func told(c Circuit, in, joint []api.Elem) api.Elem {
	f := c.Field
	bit := func(x api.Elem) api.Elem { return f.Mul(x, f.Sub(x, f.One())) }
	var sum api.Elem
	switch c.Kind {
	case Count:
		return bit(in[0])
	case Sum:
		for i, x := range in {
			sum = f.Add(sum, f.Mul(f.Pow(joint[0], uint64(i+1)), bit(x)))
		}
		return sum
	}
	for i, x := range in {
		sum = f.Add(sum, f.Mul(f.Pow(joint[i/c.Chunk], uint64(i%c.Chunk+1)), bit(x)))
	}
	last := joint[len(joint)-1]
	if c.Kind == Histogram {
		sum = f.Add(sum, f.Mul(last, f.Sub(f.Sum(in...), f.One())))
	}
	if c.Kind == Multihot {
		n := f.Add(f.Sum(in[:c.Length]...), f.Of(c.offset()))
		for i, x := range in[c.Length:] {
			n = f.Sub(n, f.Mul(x, f.Of(1<<i)))
		}
		sum = f.Add(sum, f.Mul(last, n))
	}
	return sum
}

func TestRun(t *testing.T) {
	r := rand.New(rand.NewSource(10))
	for _, f := range fields {
		for _, c := range right(f) {
			in, joint := drawn(f, r, c.In()), drawn(f, r, c.Joint())
			calls := 0
			got, e := c.Run(in, joint, 1, func(l []api.Elem) (api.Elem, api.Errno) {
				calls++
				n, e := c.Gadget().Of(f, l)
				clear(l)
				return n, e
			})
			if e != api.OK || got != told(c, in, joint) || calls != c.Calls() {
				t.Errorf("P10.3: Run of %v: %d, %d calls", c, e, calls)
			}
			if c.Valid(in) {
				t.Errorf("P10.3: Valid of any vector of %v", c)
			}
		}
	}
}

// The sum of what is asked of two shares is what is asked of the whole, if the gadget's answers are.
func TestRunOfShares(t *testing.T) {
	r := rand.New(rand.NewSource(11))
	for _, f := range fields {
		for _, c := range right(f) {
			in, joint := drawn(f, r, c.In()), drawn(f, r, c.Joint())
			first := drawn(f, r, c.In())
			second, _ := f.SubVec(in, first)
			fixed := func(in []api.Elem) (api.Elem, api.Errno) { return f.Sum(in...), api.OK }
			whole, _ := c.Run(in, joint, 1, fixed)
			a, e1 := c.Run(first, joint, 2, fixed)
			b, e2 := c.Run(second, joint, 2, fixed)
			if e1 != api.OK || e2 != api.OK || f.Add(a, b) != whole {
				t.Errorf("P10.3: shares of %v: %d, %d", c, e1, e2)
			}
		}
	}
}

func TestRunErrors(t *testing.T) {
	for _, f := range fields {
		for _, c := range right(f) {
			in, joint := make([]api.Elem, c.In()), make([]api.Elem, c.Joint())
			_, e1 := c.Run(nil, nil, 0, nil)
			_, e2 := c.Run(in[1:], joint, 0, direct(c))
			_, e3 := c.Run(in, append(joint, api.Elem{}), 0, direct(c))
			_, e4 := c.Run(in, joint, 0, direct(c))
			_, e5 := c.Run(in, joint, -1, direct(c))
			a, e6 := c.Run(in, joint, 1, func([]api.Elem) (api.Elem, api.Errno) { return api.Elem{7}, api.ErrWait })
			_, e7 := c.Run(in, joint, 1, func([]api.Elem) (api.Elem, api.Errno) { panic("no") })
			if e1 != api.ErrNil || e2 != api.ErrSize || e3 != api.ErrSize || e4 != api.ErrDivide || e5 != api.ErrDivide || e6 != api.ErrWait || a != (api.Elem{}) || e7 == api.OK {
				t.Errorf("P10.3: Run of %v: %d, %d, %d, %d, %d, %d, %d", c, e1, e2, e3, e4, e5, e6, e7)
			}
		}
	}
}

func TestValid(t *testing.T) {
	for _, f := range fields {
		for _, x := range []struct {
			c    Circuit
			in   []api.Elem
			want bool
		}{
			{Circuit{Kind: Count, Field: f}, numbers(0), true}, {Circuit{Kind: Count, Field: f}, numbers(2), false}, {Circuit{Kind: Count, Field: f}, numbers(0, 0), false},
			{Circuit{Kind: Sum, Field: f, Bits: 2}, numbers(1, 1), true}, {Circuit{Kind: Sum, Field: f, Bits: 2}, numbers(1, 3), false}, {Circuit{Kind: Sum, Field: f, Bits: 2}, nil, false},
			{Circuit{Kind: SumVec, Field: f, Bits: 1, Length: 2, Chunk: 1}, numbers(1, 1), true},
			{Circuit{Kind: Histogram, Field: f, Length: 3, Chunk: 1}, numbers(0, 1, 0), true}, {Circuit{Kind: Histogram, Field: f, Length: 3, Chunk: 1}, numbers(0, 1, 1), false}, {Circuit{Kind: Histogram, Field: f, Length: 3, Chunk: 1}, numbers(0, 0, 0), false},
			{Circuit{Kind: Multihot, Field: f, Length: 3, Weight: 2, Chunk: 1}, numbers(1, 0, 1, 1, 1), true}, {Circuit{Kind: Multihot, Field: f, Length: 3, Weight: 2, Chunk: 1}, numbers(0, 0, 0, 1, 0), true},
			{Circuit{Kind: Multihot, Field: f, Length: 3, Weight: 2, Chunk: 1}, numbers(1, 1, 1, 1, 1), false}, {Circuit{Kind: Multihot, Field: f, Length: 3, Weight: 2, Chunk: 1}, numbers(1, 0, 0, 1, 1), false},
		} {
			if x.c.Valid(x.in) != x.want {
				t.Errorf("P10.3: Valid of %v by %v", x.in, x.c)
			}
			joint := numbers(5, 7, 11, 13, 17, 19)[:x.c.Joint()]
			if n, e := x.c.Run(x.in, joint, 1, direct(x.c)); e == api.OK && (n == (api.Elem{})) != x.want {
				t.Errorf("P10.3: Run of %v by %v: %v", x.in, x.c, n)
			}
		}
	}
}

func TestExamples(t *testing.T) {
	in, e := Circuit{Kind: Multihot, Field: field.Small, Length: 3, Weight: 2, Chunk: 1}.Encode(Measure{1, 0, 1})
	if e != api.OK || !slices.Equal(in, numbers(1, 0, 1, 1, 1)) {
		t.Errorf("example: %v, %d", in, e)
	}
}
