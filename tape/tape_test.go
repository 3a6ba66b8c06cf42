package tape

import (
	"math/rand"
	"slices"
	"testing"

	"tallyman/api"
	"tallyman/circuit"
	"tallyman/field"
	"tallyman/share"
)

var fields = []field.Field{field.Small, field.Large}

// none is an element of neither field.
var none = api.Elem{1<<64 - 1, 1<<64 - 1}

func drawn(f field.Field, r *rand.Rand, many int) []api.Elem {
	l := make([]api.Elem, many)
	for i := range l {
		l[i] = f.Add(api.Elem{r.Uint64(), r.Uint64()}, api.Elem{})
	}
	return l
}

func task(f field.Field) share.Task {
	return share.Task{Circuit: circuit.Circuit{Kind: circuit.SumVec, Field: f, Bits: 2, Length: 3, Chunk: 4}, Proofs: 2}
}

func TestSplit(t *testing.T) {
	r := rand.New(rand.NewSource(1))
	for _, f := range fields {
		in, d := drawn(f, r, 5), drawn(f, r, 5)
		s, e := Split(f, in, d)
		sum, _ := f.AddVec(s.First, s.Second)
		if e != api.OK || !slices.Equal(sum, in) || !slices.Equal(s.Second, d) {
			t.Errorf("P31.1: Split: %v, %d", s, e)
		}
		s.Second[0] = none
		if d[0] == none {
			t.Error("R6: Split shares memory")
		}
		if s, e := Split(f, nil, nil); e != api.OK || len(s.First)+len(s.Second) != 0 {
			t.Errorf("P31.1: Split of nothing: %d", e)
		}
		for i, c := range []struct {
			in, d []api.Elem
			want  api.Errno
		}{{[]api.Elem{none}, nil, api.ErrField}, {nil, []api.Elem{{1}, none}, api.ErrField}, {in, d[1:], api.ErrSize}, {nil, d, api.ErrSize}} {
			if s, e := Split(f, c.in, c.d); e != c.want || s.First != nil || s.Second != nil {
				t.Errorf("P31.1: Split, case %d: %d", i, e)
			}
		}
	}
	if _, e := Split(3, []api.Elem{none}, nil); e != api.ErrKind {
		t.Errorf("P31.1: Split of no field: %d", e)
	}
	if _, e := Split(field.Small, []api.Elem{{1, 1}}, []api.Elem{{}}); e != api.ErrField {
		t.Errorf("P31.1: a high half: %d", e)
	}
}

func TestRetape(t *testing.T) {
	r := rand.New(rand.NewSource(2))
	for _, f := range fields {
		in, other, d := drawn(f, r, 5), drawn(f, r, 5), drawn(f, r, 5)
		x, e := Retape(f, in, other, d)
		a, _ := Split(f, in, d)
		b, _ := Split(f, other, x)
		if e != api.OK || !slices.Equal(a.First, b.First) {
			t.Errorf("P31.1: Retape: %v, %d", x, e)
		}
		if back, e := Retape(f, other, in, x); e != api.OK || !slices.Equal(back, d) {
			t.Errorf("P8: to each draw one belongs, and back: %d", e)
		}
		for i, c := range []struct {
			in, other, d []api.Elem
			want         api.Errno
		}{{[]api.Elem{none}, other, d, api.ErrField}, {in, other, d[1:], api.ErrSize}, {in, []api.Elem{none}, d[1:], api.ErrSize}, {in, []api.Elem{none}, d, api.ErrField}, {in, other[1:], d, api.ErrSize}} {
			if x, e := Retape(f, c.in, c.other, c.d); e != c.want || x != nil {
				t.Errorf("P31.1: Retape, case %d: %d", i, e)
			}
		}
	}
	if _, e := Retape(0, nil, nil, nil); e != api.ErrKind {
		t.Errorf("P31.1: Retape of no field: %d", e)
	}
}

func TestSpreadAndOther(t *testing.T) {
	r := rand.New(rand.NewSource(3))
	for _, f := range fields {
		x := task(f)
		n, m := x.Circuit.In(), 2*x.Circuit.Proof()
		in, proofs, otherIn, otherProofs := drawn(f, r, n), drawn(f, r, m), drawn(f, r, n), drawn(f, r, m)
		d := Draws{drawn(f, r, n), drawn(f, r, m)}
		a, e := Spread(x, in, proofs, d)
		wantIn, _ := Split(f, in, d.In)
		wantProof, _ := Split(f, proofs, d.Proof)
		if e != api.OK || !slices.Equal(a.In.First, wantIn.First) || !slices.Equal(a.In.Second, d.In) || !slices.Equal(a.Proof.First, wantProof.First) || !slices.Equal(a.Proof.Second, d.Proof) {
			t.Errorf("P31.1: Spread: %d", e)
		}
		o, e := Other(x, in, proofs, otherIn, otherProofs, d)
		b, e2 := Spread(x, otherIn, otherProofs, o)
		if e != api.OK || e2 != api.OK || !slices.Equal(a.In.First, b.In.First) || !slices.Equal(a.Proof.First, b.Proof.First) {
			t.Errorf("P31.1: Other: %d, %d", e, e2)
		}
		wrong := slices.Clone(proofs)
		wrong[3] = none
		for i, c := range []struct {
			t          share.Task
			in, proofs []api.Elem
			d          Draws
			want       api.Errno
		}{
			{share.Task{}, nil, nil, d, api.ErrField}, {share.Task{Circuit: x.Circuit}, in, proofs, d, api.ErrRange}, {x, in[1:], proofs, d, api.ErrSize}, {x, in, proofs[1:], d, api.ErrSize}, {x, in, wrong, d, api.ErrField},
			{x, in, proofs, Draws{d.In[1:], d.Proof}, api.ErrSize}, {x, in, proofs, Draws{d.In, d.Proof[1:]}, api.ErrSize}, {x, in, wrong, Draws{d.In[1:], d.Proof}, api.ErrSize}, {x, in, proofs, Draws{d.In, wrong}, api.ErrField},
		} {
			r, e1 := Spread(c.t, c.in, c.proofs, c.d)
			o, e2 := Other(c.t, c.in, c.proofs, nil, nil, c.d)
			if e1 != c.want || e2 != c.want || r.In.First != nil || r.Proof.First != nil || r.In.Second != nil || o.In != nil || o.Proof != nil {
				t.Errorf("P31.1: case %d: %d, %d", i, e1, e2)
			}
		}
		_, e1 := Other(x, in, proofs, otherIn[1:], wrong, d)
		o, e2 = Other(x, in, proofs, otherIn, wrong, d)
		if e1 != api.ErrSize || e2 != api.ErrField || o.In != nil {
			t.Errorf("P31.1: Retape's errors: %d, %d", e1, e2)
		}
	}
}

func TestSwap(t *testing.T) {
	r := rand.New(rand.NewSource(4))
	for _, f := range fields {
		c := task(f).Circuit
		a, b, otherA, drawnA, drawnB := drawn(f, r, 6), drawn(f, r, 6), drawn(f, r, 6), drawn(f, r, 6), drawn(f, r, 6)
		sum, _ := f.AddVec(a, b)
		otherB, _ := f.SubVec(sum, otherA)
		x, y, e := Swap(c, a, b, otherA, otherB, drawnA, drawnB)
		for _, pair := range [][4][]api.Elem{{a, drawnA, otherA, x}, {b, drawnB, otherB, y}} {
			s, _ := Split(f, pair[0], pair[1])
			o, _ := Split(f, pair[2], pair[3])
			if e != api.OK || !slices.Equal(s.First, o.First) {
				t.Errorf("P31.2: Swap: %d", e)
			}
		}
		second, _ := f.AddVec(drawnA, drawnB)
		otherSecond, _ := f.AddVec(x, y)
		if !slices.Equal(second, otherSecond) {
			t.Error("P31.2: the second shares' sums")
		}
		high := slices.Clone(a)
		high[0] = api.Elem{1<<64 - 1, 1<<64 - 1}
		wrongB, _ := f.SubVec(sum, high)
		for i, w := range []struct {
			a, b, otherA, otherB, drawnA, drawnB []api.Elem
			want                                 api.Errno
		}{
			{a[1:], b, otherA[1:], otherB, nil, nil, api.ErrSize}, {a, b, otherA[1:], otherB, nil, nil, api.ErrSize}, {a, b, otherA, b, nil, nil, api.ErrOther}, {a, b, nil, nil, nil, nil, api.ErrOther},
			{a, b, otherA, otherB, drawnA[1:], nil, api.ErrSize}, {a, b, otherA, otherB, drawnA, drawnB[1:], api.ErrSize}, {a, b, high, wrongB, drawnA, drawnB[1:], api.ErrField}, {a, b, wrongB, high, drawnA, drawnB, api.ErrField},
		} {
			if x, y, e := Swap(c, w.a, w.b, w.otherA, w.otherB, w.drawnA, w.drawnB); e != w.want || x != nil || y != nil {
				t.Errorf("P31.2: Swap, case %d: %d", i, e)
			}
		}
	}
	if _, _, e := Swap(circuit.Circuit{}, make([]api.Elem, 1), nil, nil, nil, nil, nil); e != api.ErrField {
		t.Errorf("P31.2: Swap of no circuit: %d", e)
	}
}

func TestExamples(t *testing.T) {
	if l, e := Retape(field.Small, []api.Elem{{5}}, []api.Elem{{7}}, []api.Elem{{2}}); e != api.OK || !slices.Equal(l, []api.Elem{{4}}) {
		t.Errorf("example: %v, %d", l, e)
	}
}
