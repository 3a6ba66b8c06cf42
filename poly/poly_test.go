package poly

import (
	"math/rand"
	"slices"
	"testing"

	"tallyman/api"
	"tallyman/field"
	"tallyman/ntt"
)

var fields = []field.Field{field.Small, field.Large}

func drawn(f field.Field, r *rand.Rand, many int) []api.Elem {
	l := make([]api.Elem, many)
	for i := range l {
		l[i] = f.Add(api.Elem{r.Uint64(), r.Uint64()}, api.Elem{})
	}
	return l
}

func draws() *rand.Rand { return rand.New(rand.NewSource(5)) }

func TestTrimAndDegree(t *testing.T) {
	for _, c := range []struct{ p, want []api.Elem }{
		{nil, nil}, {[]api.Elem{{}, {}}, nil}, {[]api.Elem{{1}, {}, {0, 1}, {}}, []api.Elem{{1}, {}, {0, 1}}}, {[]api.Elem{{4}}, []api.Elem{{4}}},
	} {
		got := Trim(c.p)
		if !slices.Equal(got, c.want) || Degree(c.p) != len(c.want)-1 {
			t.Errorf("P5.1: Trim(%v) = %v, Degree %d", c.p, got, Degree(c.p))
		}
	}
	p := []api.Elem{{1}, {2}}
	Trim(p)[0] = api.Elem{9}
	if p[0] != (api.Elem{1}) {
		t.Error("R6: Trim shares memory")
	}
}

func TestAtAddScale(t *testing.T) {
	for _, f := range fields {
		p, x := []api.Elem{{1}, {2}, {3}}, api.Elem{10}
		if At(f, p, x) != (api.Elem{321}) || At(f, nil, x) != (api.Elem{}) {
			t.Error("P5.1: At")
		}
		q := []api.Elem{{4}, {1}, f.Neg(api.Elem{3})}
		if got := Add(f, p, q); !slices.Equal(got, []api.Elem{{5}, {3}}) {
			t.Errorf("P5.1: Add: %v", got)
		}
		if got := Add(f, p[:1], q); !slices.Equal(got, []api.Elem{{5}, {1}, q[2]}) {
			t.Errorf("P5.1: Add of unlike lengths: %v", got)
		}
		if got := Scale(f, p, api.Elem{2}); !slices.Equal(got, []api.Elem{{2}, {4}, {6}}) {
			t.Errorf("P5.1: Scale: %v", got)
		}
		if got := Scale(f, p, api.Elem{}); len(got) != 0 {
			t.Errorf("P5.1: Scale by 0: %v", got)
		}
	}
	if At(0, []api.Elem{{1}}, api.Elem{1}) != (api.Elem{}) || len(Add(0, []api.Elem{{1}}, nil)) != 0 || len(Scale(9, []api.Elem{{1}}, api.Elem{1})) != 0 {
		t.Error("P5.1: of no field")
	}
}

func TestMul(t *testing.T) {
	r := draws()
	for _, f := range fields {
		for _, c := range [][2]int{{1, 1}, {3, 5}, {16, 16}, {17, 40}, {1, 1024}, {512, 513}, {100, 900}} {
			a, b := drawn(f, r, c[0]), drawn(f, r, c[1])
			p, e := Mul(f, append(a, api.Elem{}), b)
			if e != api.OK || len(p) != c[0]+c[1]-1 {
				t.Fatalf("P5.1: Mul of %v: %d, %d coefficients", c, e, len(p))
			}
			for range 3 {
				x := drawn(f, r, 1)[0]
				if At(f, p, x) != f.Mul(At(f, a, x), At(f, b, x)) {
					t.Fatalf("P5.1: Mul of %v", c)
				}
			}
		}
		if _, e := Mul(f, drawn(f, r, 513), drawn(f, r, 513)); e != api.ErrMany {
			t.Errorf("P5.1: Mul of too many: %d", e)
		}
		if _, e := Mul(f, drawn(f, r, 1025), []api.Elem{{1}}); e != api.ErrMany {
			t.Errorf("P5.1: Mul of too many by one: %d", e)
		}
		if p, e := Mul(f, drawn(f, r, 2000), []api.Elem{{}, {}}); e != api.OK || len(p) != 0 {
			t.Errorf("P5.1: Mul by nought: %d", e)
		}
	}
	if _, e := Mul(0, nil, nil); e != api.ErrKind {
		t.Errorf("P5.1: Mul of no field: %d", e)
	}
}

func TestThrough(t *testing.T) {
	r := draws()
	for _, f := range fields {
		for _, many := range []int{0, 1, 2, 7, 64} {
			points, values := drawn(f, r, many), drawn(f, r, many)
			p, e := Through(f, points, values)
			if e != api.OK || len(p) > many {
				t.Fatalf("P5.2: Through %d: %d", many, e)
			}
			for i, x := range points {
				if At(f, p, x) != values[i] {
					t.Fatalf("P5.2: Through %d, place %d", many, i)
				}
			}
		}
		line, e := Through(f, []api.Elem{{1}, {2}, {3}}, []api.Elem{{5}, {7}, {9}})
		if e != api.OK || !slices.Equal(line, []api.Elem{{3}, {2}}) {
			t.Errorf("P5.2: not of least degree: %v", line)
		}
		_, e1 := Through(f, make([]api.Elem, 65), make([]api.Elem, 64))
		_, e2 := Through(f, make([]api.Elem, 65), make([]api.Elem, 65))
		_, e3 := Through(f, []api.Elem{{1}, {2}, {1}}, []api.Elem{{1}, {2}, {1}})
		if e1 != api.ErrSize || e2 != api.ErrMany || e3 != api.ErrDivide {
			t.Errorf("P5.2: Through: %d, %d, %d", e1, e2, e3)
		}
	}
	if _, e := Through(0, nil, make([]api.Elem, 1)); e != api.ErrKind {
		t.Errorf("P5.2: Through of no field: %d", e)
	}
}

func TestWeightsAndLagrange(t *testing.T) {
	r := draws()
	for _, f := range fields {
		for log := range 11 {
			p := drawn(f, r, 1<<log)
			values, _ := ntt.Values(f, p)
			x := drawn(f, r, 1)[0]
			w, e := Weights(f, log, x)
			if sum, _ := f.Dot(w, values); e != api.OK || len(w) != 1<<log || sum != At(f, p, x) {
				t.Errorf("P5.2: Weights of 2^%d: %d", log, e)
			}
			if v, e := Lagrange(f, values, x); e != api.OK || v != At(f, p, x) {
				t.Errorf("P5.2: Lagrange of 2^%d: %d", log, e)
			}
			points, _ := ntt.Points(f, log)
			x = points[len(points)-1]
			w, e = Weights(f, log, x)
			v, e2 := Lagrange(f, values, x)
			if w != nil || v != (api.Elem{}) || e != api.ErrPoint || e2 != api.ErrPoint {
				t.Errorf("P5.2: at a point: %d, %d", e, e2)
			}
		}
		if w, e := Weights(f, 2, api.Elem{}); e != api.OK || f.Sum(w...) != f.One() {
			t.Errorf("P5.2: Weights at 0: %d", e)
		}
		if _, e := Weights(f, 11, api.Elem{}); e != api.ErrRange {
			t.Errorf("P5.2: Weights of too many: %d", e)
		}
	}
	if _, e := Weights(0, 11, api.Elem{}); e != api.ErrKind {
		t.Errorf("P5.2: Weights of no field: %d", e)
	}
	for _, size := range []int{0, 3, 2048} {
		if _, e := Lagrange(0, make([]api.Elem, size), api.Elem{}); e != api.ErrSize {
			t.Errorf("R2: Lagrange of %d values of no field: %d", size, e)
		}
	}
	if _, e := Lagrange(0, make([]api.Elem, 2), api.Elem{}); e != api.ErrKind {
		t.Errorf("P5.2: Lagrange of no field: %d", e)
	}
}

func TestDivide(t *testing.T) {
	r := draws()
	for _, f := range fields {
		for _, c := range [][2]int{{0, 1}, {1, 1}, {5, 3}, {3, 5}, {1024, 1}, {1024, 1024}, {300, 20}} {
			a, b := drawn(f, r, c[0]), drawn(f, r, c[1])
			kept := slices.Clone(a)
			times, rest, e := Divide(f, a, append(b, api.Elem{}))
			product, _ := Mul(f, times, b)
			if e != api.OK || Degree(rest) >= Degree(b) || !slices.Equal(Add(f, product, rest), a) || !slices.Equal(a, kept) {
				t.Errorf("P5.3: Divide of %v: %d", c, e)
			}
		}
		_, _, e1 := Divide(f, make([]api.Elem, 3000), []api.Elem{{}, {}})
		_, _, e2 := Divide(f, drawn(f, r, 1025), drawn(f, r, 1))
		_, _, e3 := Divide(f, drawn(f, r, 1), drawn(f, r, 1025))
		if e1 != api.ErrDivide || e2 != api.ErrMany || e3 != api.ErrMany {
			t.Errorf("P5.3: Divide: %d, %d, %d", e1, e2, e3)
		}
	}
	if _, _, e := Divide(0, nil, nil); e != api.ErrKind {
		t.Errorf("P5.3: Divide of no field: %d", e)
	}
}

func TestCommon(t *testing.T) {
	r := draws()
	for _, f := range fields {
		both := append(drawn(f, r, 3), f.One())
		a, _ := Mul(f, both, []api.Elem{{1}, {2}, {5}})
		b, _ := Mul(f, both, []api.Elem{{7}, {3}})
		if c, e := Common(f, a, b); e != api.OK || !slices.Equal(c, both) {
			t.Errorf("P5.3: Common: %v, %d", c, e)
		}
		if c, e := Common(f, a, nil); e != api.OK || len(c) != len(a) || c[len(c)-1] != f.One() {
			t.Errorf("P5.3: Common with nought: %v, %d", c, e)
		}
		if c, e := Common(f, nil, []api.Elem{{4}}); e != api.OK || !slices.Equal(c, []api.Elem{{1}}) {
			t.Errorf("P5.3: Common of nought: %v, %d", c, e)
		}
		if c, e := Common(f, nil, []api.Elem{{}}); e != api.OK || len(c) != 0 {
			t.Errorf("P5.3: Common of noughts: %v, %d", c, e)
		}
		if c, e := Common(f, drawn(f, r, 64), append(drawn(f, r, 64), api.Elem{})); e != api.OK || !slices.Equal(c, []api.Elem{{1}}) {
			t.Errorf("P5.3: Common of what is unlike: %v, %d", c, e)
		}
		_, e1 := Common(f, drawn(f, r, 65), nil)
		_, e2 := Common(f, nil, drawn(f, r, 65))
		if e1 != api.ErrMany || e2 != api.ErrMany {
			t.Errorf("P5.3: Common of too many: %d, %d", e1, e2)
		}
	}
	if _, e := Common(0, nil, nil); e != api.ErrKind {
		t.Errorf("P5.3: Common of no field: %d", e)
	}
}

// What isn't of the field is promised nothing but to end.
func TestAnyElementsEnd(t *testing.T) {
	f := field.Small
	p, _ := f.Root(0)
	modulus := api.Elem{f.Neg(p)[0] + 1, 3}
	l := []api.Elem{{1}, modulus, modulus}
	Mul(f, l, l)
	Divide(f, l, l)
	Divide(f, l, []api.Elem{modulus})
	Common(f, l, l)
	Through(f, l, l)
	Lagrange(f, l[:2], modulus)
}

func TestExamples(t *testing.T) {
	if p, e := Mul(field.Small, []api.Elem{{1}, {1}}, []api.Elem{{1}, {1}}); e != api.OK || !slices.Equal(p, []api.Elem{{1}, {2}, {1}}) {
		t.Errorf("example: Mul: %v, %d", p, e)
	}
}
