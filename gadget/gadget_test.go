package gadget

import (
	"math/rand"
	"slices"
	"testing"

	"tallyman/api"
	"tallyman/field"
	"tallyman/poly"
)

var fields = []field.Field{field.Small, field.Large}

func drawn(f field.Field, r *rand.Rand, many int) []api.Elem {
	l := make([]api.Elem, many)
	for i := range l {
		l[i] = f.Add(api.Elem{r.Uint64(), r.Uint64()}, api.Elem{})
	}
	return l
}

func one(many int) []api.Elem {
	l := make([]api.Elem, many)
	if many > 0 {
		l[many-1] = api.Elem{1}
	}
	return l
}

func TestCheck(t *testing.T) {
	if Mul != 1 || Eval != 2 || Parallel != 3 {
		t.Error("the kinds' numbers")
	}
	big := api.Elem{1<<64 - 1, 1<<64 - 1}
	for i, c := range []struct {
		g    Gadget
		want api.Errno
	}{
		{Gadget{Kind: Mul}, api.OK}, {Gadget{Kind: Mul, Many: -1, Coefs: one(9)}, api.OK},
		{Gadget{Kind: Eval}, api.ErrSize}, {Gadget{Kind: Eval, Coefs: one(1)}, api.ErrSize}, {Gadget{Kind: Eval, Coefs: one(5)}, api.ErrSize},
		{Gadget{Kind: Eval, Coefs: one(2)}, api.OK}, {Gadget{Kind: Eval, Coefs: one(4)}, api.OK}, {Gadget{Kind: Eval, Coefs: []api.Elem{big, {}}}, api.ErrSize},
		{Gadget{Kind: Eval, Coefs: []api.Elem{big, {1}}}, api.ErrField}, {Gadget{Kind: Eval, Coefs: []api.Elem{{}, big}}, api.ErrField},
		{Gadget{Kind: Parallel}, api.ErrRange}, {Gadget{Kind: Parallel, Many: -1}, api.ErrRange}, {Gadget{Kind: Parallel, Many: 17}, api.ErrRange},
		{Gadget{Kind: Parallel, Many: 1}, api.OK}, {Gadget{Kind: Parallel, Many: 16}, api.OK}, {Gadget{}, api.ErrKind}, {Gadget{Kind: 4, Many: 1}, api.ErrKind},
	} {
		for _, f := range fields {
			if e := c.g.Check(f); e != c.want {
				t.Errorf("P9.1: Check of case %d: %d", i, e)
			}
			if c.want != api.OK {
				a, e1 := c.g.Of(f, nil)
				p, e2 := c.g.Poly(f, nil)
				if a != (api.Elem{}) || p != nil || e1 != c.want || e2 != c.want {
					t.Errorf("P9.2: Of and Poly of case %d: %d, %d", i, e1, e2)
				}
			}
		}
		if e := c.g.Check(0); e != api.ErrKind {
			t.Errorf("P9.1: Check of no field: %d", e)
		}
	}
	if e := (Gadget{Kind: Eval, Coefs: []api.Elem{{1}, {0, 5}}}).Check(field.Small); e != api.ErrField {
		t.Errorf("P9.1: zero are both halves: %d", e)
	}
}

func TestArityAndDegree(t *testing.T) {
	for i, c := range []struct {
		g             Gadget
		arity, degree int
	}{
		{Gadget{Kind: Mul}, 2, 2}, {Gadget{Kind: Eval}, 1, 0}, {Gadget{Kind: Eval, Coefs: one(1)}, 1, 0}, {Gadget{Kind: Eval, Coefs: one(4)}, 1, 3},
		{Gadget{Kind: Parallel, Many: 5}, 10, 2}, {Gadget{Kind: Parallel, Many: -7}, 0, 2}, {Gadget{}, 0, 0}, {Gadget{Kind: 9, Many: 3, Coefs: one(3)}, 0, 0},
	} {
		if c.g.Arity() != c.arity || c.g.Degree() != c.degree {
			t.Errorf("P9.1: case %d: Arity %d, Degree %d", i, c.g.Arity(), c.g.Degree())
		}
	}
}

func TestBit(t *testing.T) {
	for _, f := range fields {
		b := Bit(f)
		if b.Check(f) != api.OK || b.Arity() != 1 || b.Degree() != 2 {
			t.Error("P9.1: Bit")
		}
		for n, want := range []uint64{0, 0, 2, 6} {
			if got, e := b.Of(f, []api.Elem{{uint64(n)}}); e != api.OK || got != (api.Elem{want}) {
				t.Errorf("P9.1: Bit of %d: %v, %d", n, got, e)
			}
		}
	}
	Bit(0)
}

func TestOf(t *testing.T) {
	for _, f := range fields {
		if n, e := (Gadget{Kind: Mul}).Of(f, []api.Elem{{6}, {7}}); e != api.OK || n != (api.Elem{42}) {
			t.Errorf("P9.2: Mul: %v, %d", n, e)
		}
		if n, e := (Gadget{Kind: Eval, Coefs: []api.Elem{{1}, {2}, {3}, {4}}}).Of(f, []api.Elem{{10}}); e != api.OK || n != (api.Elem{4321}) {
			t.Errorf("P9.2: Eval: %v, %d", n, e)
		}
		for _, g := range []Gadget{{Kind: Mul}, Bit(f), {Kind: Parallel, Many: 3}} {
			for _, many := range []int{0, g.Arity() - 1, g.Arity() + 1} {
				_, e1 := g.Of(f, make([]api.Elem, many))
				_, e2 := g.Poly(f, make([][]api.Elem, many))
				if e1 != api.ErrSize || e2 != api.ErrSize {
					t.Errorf("P9.2: of %d numbers: %d, %d", many, e1, e2)
				}
			}
		}
	}
}

func TestPoly(t *testing.T) {
	r := rand.New(rand.NewSource(9))
	for _, f := range fields {
		for _, g := range []Gadget{{Kind: Mul}, Bit(f), {Kind: Eval, Coefs: drawn(f, r, 4)}, {Kind: Parallel, Many: 1}, {Kind: Parallel, Many: 16}} {
			x := drawn(f, r, 1)[0]
			in, at := make([][]api.Elem, g.Arity()), make([]api.Elem, g.Arity())
			for i := range in {
				in[i] = append(drawn(f, r, 5+i), api.Elem{})
				at[i] = poly.At(f, in[i], x)
			}
			p, e := g.Poly(f, in)
			want, _ := g.Of(f, at)
			if e != api.OK || poly.At(f, p, x) != want || !slices.Equal(poly.Trim(p), p) {
				t.Errorf("P9.2: Poly of kind %d: %d", g.Kind, e)
			}
		}
		long := drawn(f, r, 600)
		_, e1 := Gadget{Kind: Mul}.Poly(f, [][]api.Elem{long, long})
		_, e2 := Bit(f).Poly(f, [][]api.Elem{long})
		_, e3 := Gadget{Kind: Parallel, Many: 2}.Poly(f, [][]api.Elem{nil, nil, long, long})
		if e1 != api.ErrMany || e2 != api.ErrMany || e3 != api.ErrMany {
			t.Errorf("P9.2: Poly of too many coefficients: %d, %d, %d", e1, e2, e3)
		}
		if p, e := (Gadget{Kind: Parallel, Many: 2}).Poly(f, [][]api.Elem{{{2}}, {{3}}, {f.Neg(api.Elem{6})}, {{1}}}); e != api.OK || len(p) != 0 {
			t.Errorf("P9.2: not trimmed: %v, %d", p, e)
		}
		if p, e := Bit(f).Poly(f, [][]api.Elem{{{1}, {}}}); e != api.OK || len(p) != 0 {
			t.Errorf("P9.2: Bit of the polynomial 1: %v, %d", p, e)
		}
	}
}

func TestExamples(t *testing.T) {
	if n, e := (Gadget{Kind: Parallel, Many: 2}).Of(field.Small, []api.Elem{{1}, {2}, {3}, {4}}); e != api.OK || n != (api.Elem{14}) {
		t.Errorf("example: %v, %d", n, e)
	}
}
