package proof

import (
	"math/rand"
	"slices"
	"testing"

	"tallyman/api"
	"tallyman/circuit"
	"tallyman/field"
	"tallyman/ntt"
	"tallyman/poly"
)

var fields = []field.Field{field.Small, field.Large}

func drawn(f field.Field, r *rand.Rand, many int) []api.Elem {
	l := make([]api.Elem, many)
	for i := range l {
		l[i] = f.Add(api.Elem{r.Uint64(), r.Uint64()}, api.Elem{})
	}
	return l
}

// example is a circuit, and what is measured.
type example struct {
	c circuit.Circuit
	m circuit.Measure
}

func examples(f field.Field) []example {
	return []example{
		{circuit.Circuit{Kind: circuit.Count, Field: f}, circuit.Measure{1}},
		{circuit.Circuit{Kind: circuit.Count, Field: f}, circuit.Measure{0}},
		{circuit.Circuit{Kind: circuit.Sum, Field: f, Bits: 1}, circuit.Measure{1}},
		{circuit.Circuit{Kind: circuit.Sum, Field: f, Bits: 32}, circuit.Measure{3000000000}},
		{circuit.Circuit{Kind: circuit.SumVec, Field: f, Bits: 3, Length: 5, Chunk: 4}, circuit.Measure{7, 0, 3, 1, 6}},
		{circuit.Circuit{Kind: circuit.SumVec, Field: f, Bits: 32, Length: 64, Chunk: 5}, make(circuit.Measure, 64)},
		{circuit.Circuit{Kind: circuit.Histogram, Field: f, Length: 5, Chunk: 2}, circuit.Measure{4}},
		{circuit.Circuit{Kind: circuit.Multihot, Field: f, Length: 3, Weight: 2, Chunk: 2}, circuit.Measure{1, 0, 1}},
		{circuit.Circuit{Kind: circuit.Multihot, Field: f, Length: 7, Weight: 3, Chunk: 16}, make(circuit.Measure, 7)},
	}
}

func TestRightVectors(t *testing.T) {
	r := rand.New(rand.NewSource(1))
	for _, f := range fields {
		for _, x := range examples(f) {
			c := x.c
			in, _ := c.Encode(x.m)
			joint := drawn(f, r, c.Joint())
			seeds := drawn(f, r, c.Gadget().Arity())
			p, e := Prove(c, in, seeds, joint)
			if e != api.OK || len(p) != c.Proof() || !slices.Equal(p[:len(seeds)], seeds) {
				t.Fatalf("P11.1: Prove of %v: %d", c, e)
			}
			if said, e := Direct(c, in, joint); e != api.OK || said != (api.Elem{}) {
				t.Errorf("P11.1: Direct of %v: %d", c, e)
			}
			point := drawn(f, r, 1)[0]
			v, e := Query(c, in, p, joint, point, 1)
			if ok, e2 := Decide(c, v); e != api.OK || e2 != api.OK || !ok || len(v) != c.Verifier() {
				t.Errorf("P11.3: %v isn't decided to be right: %d, %d", c, e, e2)
			}
			firstIn, firstP := drawn(f, r, len(in)), drawn(f, r, len(p))
			secondIn, _ := f.SubVec(in, firstIn)
			secondP, _ := f.SubVec(p, firstP)
			a, e1 := Query(c, firstIn, firstP, joint, point, 2)
			b, e2 := Query(c, secondIn, secondP, joint, point, 2)
			sum, e3 := f.AddVec(a, b)
			if ok, _ := Decide(c, sum); !ok || e1 != api.OK || e2 != api.OK || e3 != api.OK || !slices.Equal(sum, v) {
				t.Errorf("P11.3: shares of %v: %d, %d, %d", c, e1, e2, e3)
			}
		}
	}
}

func TestWrongVectors(t *testing.T) {
	r := rand.New(rand.NewSource(2))
	for _, f := range fields {
		for _, x := range examples(f) {
			c := x.c
			in, _ := c.Encode(x.m)
			joint, seeds, point := drawn(f, r, c.Joint()), drawn(f, r, c.Gadget().Arity()), drawn(f, r, 1)[0]
			wrong := slices.Clone(in)
			wrong[len(wrong)-1] = api.Elem{2}
			p, e := Prove(c, wrong, seeds, joint)
			v, e2 := Query(c, wrong, p, joint, point, 1)
			if ok, _ := Decide(c, v); ok || e != api.OK || e2 != api.OK {
				t.Errorf("P11.3: a wrong vector of %v is decided to be right: %d, %d", c, e, e2)
			}
			if said, _ := Direct(c, wrong, joint); said == (api.Elem{}) || said != v[0] {
				t.Errorf("P11.1: Direct of a wrong vector of %v", c)
			}
			p, _ = Prove(c, in, seeds, joint)
			for _, at := range []int{0, len(p) - 1} {
				forged := slices.Clone(p)
				forged[at] = f.Add(forged[at], f.One())
				v, _ := Query(c, in, forged, joint, point, 1)
				if ok, _ := Decide(c, v); ok {
					t.Errorf("P11.3: a forged proof of %v is decided to be right", c)
				}
			}
		}
	}
}

// The proof of a small circuit, by what its chapter tells.
func TestProofIsTold(t *testing.T) {
	r := rand.New(rand.NewSource(3))
	for _, f := range fields {
		c := circuit.Circuit{Kind: circuit.Sum, Field: f, Bits: 2}
		in, joint, seeds, point := drawn(f, r, 2), drawn(f, r, 1), drawn(f, r, 1), drawn(f, r, 1)[0]
		points, _ := ntt.Points(f, 2)
		wire, _ := poly.Through(f, points, []api.Elem{seeds[0], in[0], in[1], {}})
		square, _ := poly.Mul(f, wire, wire)
		want := poly.Add(f, square, poly.Scale(f, wire, f.Neg(f.One())))
		p, e := Prove(c, in, seeds, joint)
		if e != api.OK || !slices.Equal(p[1:], want) {
			t.Fatalf("P11.1: %v, %d", p, e)
		}
		v, e := Query(c, in, p, joint, point, 1)
		said := f.Add(f.Mul(joint[0], poly.At(f, want, points[1])), f.Mul(f.Mul(joint[0], joint[0]), poly.At(f, want, points[2])))
		if e != api.OK || !slices.Equal(v, []api.Elem{said, poly.At(f, wire, point), poly.At(f, want, point)}) {
			t.Errorf("P11.2: %v, %d", v, e)
		}
	}
	c := circuit.Circuit{Kind: circuit.Count, Field: field.Small}
	p, e := Prove(c, []api.Elem{{}}, []api.Elem{{}, {}}, nil)
	if e != api.OK || !slices.Equal(p, make([]api.Elem, 5)) {
		t.Errorf("P11.1: noughts stand behind: %v, %d", p, e)
	}
}

func TestErrors(t *testing.T) {
	for _, f := range fields {
		for _, x := range examples(f) {
			c := x.c
			in, joint, seeds, p := make([]api.Elem, c.In()), make([]api.Elem, c.Joint()), make([]api.Elem, c.Gadget().Arity()), make([]api.Elem, c.Proof())
			_, e1 := Prove(c, nil, seeds[1:], joint)
			_, e2 := Prove(c, nil, seeds, joint)
			_, e3 := Prove(c, in, seeds, append(joint, api.Elem{}))
			_, e4 := Direct(c, nil, joint)
			if e1 != api.ErrSize || e2 != api.ErrSize || e3 != api.ErrSize || e4 != api.ErrSize {
				t.Errorf("P11.1: errors of %v: %d, %d, %d, %d", c, e1, e2, e3, e4)
			}
			_, e1 = Query(c, nil, p[1:], joint, f.One(), 0)
			_, e2 = Query(c, nil, p, joint, f.One(), 0)
			_, e3 = Query(c, nil, p, joint, api.Elem{}, 0)
			_, e4 = Query(c, in, p, joint, api.Elem{}, 0)
			if e1 != api.ErrSize || e2 != api.ErrPoint || e3 != api.ErrSize || e4 != api.ErrDivide {
				t.Errorf("P11.2: errors of %v: %d, %d, %d, %d", c, e1, e2, e3, e4)
			}
			log, _ := ntt.Log(c.Domain())
			points, _ := ntt.Points(f, log)
			for _, point := range points {
				if v, e := Query(c, in, p, joint, point, 1); v != nil || e != api.ErrPoint {
					t.Errorf("P11.2: at a point: %d", e)
				}
			}
			if _, e := Decide(c, make([]api.Elem, c.Verifier()+1)); e != api.ErrSize {
				t.Errorf("P11.2: Decide: %d", e)
			}
		}
	}
	_, e1 := Prove(circuit.Circuit{}, nil, nil, nil)
	_, e2 := Query(circuit.Circuit{}, nil, nil, nil, api.Elem{}, 1)
	_, e3 := Decide(circuit.Circuit{}, nil)
	_, e4 := Direct(circuit.Circuit{}, nil, nil)
	if e1 != api.ErrField || e2 != api.ErrField || e3 != api.ErrField || e4 != api.ErrField || Bound(circuit.Circuit{}) != 0 {
		t.Errorf("P11.1, P11.2: no circuit: %d, %d, %d, %d", e1, e2, e3, e4)
	}
}

func TestDecide(t *testing.T) {
	c := circuit.Circuit{Kind: circuit.Count, Field: field.Small}
	for _, x := range []struct {
		v    []api.Elem
		want bool
	}{
		{[]api.Elem{{}, {2}, {3}, {6}}, true}, {[]api.Elem{{1}, {2}, {3}, {6}}, false}, {[]api.Elem{{}, {2}, {3}, {7}}, false}, {make([]api.Elem, 4), true},
	} {
		if ok, e := Decide(c, x.v); e != api.OK || ok != x.want {
			t.Errorf("P11.2: Decide of %v: %v, %d", x.v, ok, e)
		}
	}
}

func TestBoundAndGadget(t *testing.T) {
	f := field.Small
	for i, want := range []int{2, 2, 3, 158, 18, 1027, 8, 8, 18} {
		c := examples(f)[i].c
		if Bound(c) != want {
			t.Errorf("P11.3: Bound of %v is %d", c, Bound(c))
		}
		if g := Gadget(c); g.Kind != c.Gadget().Kind || g.Many != c.Chunk {
			t.Errorf("P11.3: Gadget of %v", c)
		}
	}
}

func TestExamples(t *testing.T) {
	p, e := Prove(circuit.Circuit{Kind: circuit.Count, Field: field.Large}, []api.Elem{{1}}, []api.Elem{{4}, {5}}, nil)
	if e != api.OK || len(p) != 5 {
		t.Errorf("example: %v, %d", p, e)
	}
}
