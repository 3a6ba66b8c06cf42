package total

import (
	"bytes"
	"slices"
	"testing"

	"tallyman/api"
	"tallyman/circuit"
	"tallyman/field"
	"tallyman/keccak"
	"tallyman/share"
)

func sums(f field.Field) share.Task {
	return share.Task{Circuit: circuit.Circuit{Kind: circuit.SumVec, Field: f, Bits: 3, Length: 2, Chunk: 2}, Proofs: 1}
}

var fields = []field.Field{field.Small, field.Large}

func TestCheck(t *testing.T) {
	a, b := OfId(api.Id{1}), OfId(api.Id{2})
	id := api.Id{1}
	if !bytes.Equal(a[:], keccak.Hash(7, id[:], 16)) {
		t.Error("P15.1: OfId")
	}
	if a == b || a.With(b) != b.With(a) || a.With(b).With(b) != a || a.With(a) != (Check{}) || (Check{0: 3, 15: 5}).With(Check{0: 1, 15: 4}) != (Check{0: 2, 15: 1}) {
		t.Error("P15.1: With")
	}
}

func TestNewAddMerge(t *testing.T) {
	for _, f := range fields {
		task := sums(f)
		x := New(task)
		if x.Many != 0 || x.Check != (Check{}) || !slices.Equal(x.Sum, make([]api.Elem, 2)) {
			t.Errorf("P15.1: New: %v", x)
		}
		out := []api.Elem{{1}, f.Neg(api.Elem{1})}
		y, e := x.Add(task, api.Id{1}, out)
		if e != api.OK || y.Many != 1 || y.Check != OfId(api.Id{1}) || !slices.Equal(y.Sum, out) || x.Many != 0 || x.Sum[0] != (api.Elem{}) {
			t.Errorf("P15.1: Add: %v, %d", y, e)
		}
		z, e := y.Add(task, api.Id{2}, []api.Elem{{5}, {7}})
		if e != api.OK || z.Many != 2 || z.Check != OfId(api.Id{1}).With(OfId(api.Id{2})) || !slices.Equal(z.Sum, []api.Elem{{6}, {6}}) {
			t.Errorf("P15.1: Add: %v, %d", z, e)
		}
		w, e := z.Merge(task, y)
		if e != api.OK || w.Many != 3 || w.Check != OfId(api.Id{2}) || !slices.Equal(w.Sum, []api.Elem{{7}, {5}}) {
			t.Errorf("P15.1: Merge: %v, %d", w, e)
		}
		out[0] = api.Elem{99}
		if y.Sum[0] != (api.Elem{1}) {
			t.Error("R6: Add keeps what is handed in")
		}
	}
	if !Same(New(share.Task{}), Total{}) || New(share.Task{}).Sum != nil {
		t.Error("P15.1: New of a wrong task")
	}
}

func TestFullAndSize(t *testing.T) {
	task := sums(field.Small)
	two := make([]api.Elem, 2)
	for many, want := range map[int]api.Errno{-1 << 63: api.ErrFull, -1: api.ErrFull, 0: api.OK, 255: api.OK, 256: api.ErrFull, 1<<63 - 1: api.ErrFull} {
		x := Total{Sum: two, Many: many}
		if y, e := x.Add(task, api.Id{}, two); e != want || e != api.OK && !Same(y, Total{}) {
			t.Errorf("P15.1: Add to %d: %d", many, e)
		}
		if _, e := x.Add(task, api.Id{}, nil); want == api.ErrFull && e != want {
			t.Errorf("R2: Add to %d: %d", many, e)
		}
	}
	for _, c := range []struct {
		a, b int
		want api.Errno
	}{{128, 128, api.OK}, {0, 256, api.OK}, {256, 0, api.OK}, {129, 128, api.ErrFull}, {-1, 1, api.ErrFull}, {1, -1, api.ErrFull}, {1<<63 - 1, 1, api.ErrFull}, {1, 1<<63 - 1, api.ErrFull}, {1<<63 - 1, 1<<63 - 1, api.ErrFull}, {-1 << 63, -1 << 63, api.ErrFull}} {
		if _, e := (Total{Sum: two, Many: c.a}).Merge(task, Total{Sum: two, Many: c.b}); e != c.want {
			t.Errorf("P15.1: Merge of %d and %d: %d", c.a, c.b, e)
		}
	}
	for _, many := range []int{0, 1, 3} {
		l := make([]api.Elem, many)
		_, e1 := Total{Sum: two}.Add(task, api.Id{}, l)
		_, e2 := Total{Sum: l}.Add(task, api.Id{}, two)
		_, e3 := Total{Sum: l}.Merge(task, Total{Sum: l})
		if e1 != api.ErrSize || e2 != api.ErrSize || e3 != api.ErrSize {
			t.Errorf("P15.1: of %d elements: %d, %d, %d", many, e1, e2, e3)
		}
	}
	_, e1 := Total{Many: -1}.Add(share.Task{}, api.Id{}, nil)
	_, e2 := Total{Many: -1}.Merge(share.Task{}, Total{})
	_, e3 := Unshard(share.Task{}, Total{Many: 1}, Total{})
	_, e4 := Take(share.Task{}, nil)
	if e1 != api.ErrField || e2 != api.ErrField || e3 != api.ErrField || e4 != api.ErrField {
		t.Errorf("P15.1, P15.2: a wrong task: %d, %d, %d, %d", e1, e2, e3, e4)
	}
	Total{Sum: two, Many: -5}.Put(share.Task{})
}

func TestUnshard(t *testing.T) {
	for _, f := range fields {
		task := sums(f)
		a := Total{Sum: []api.Elem{{100}, f.Neg(api.Elem{3})}, Many: 2, Check: Check{1}}
		b := Total{Sum: []api.Elem{f.Neg(api.Elem{86}), {3}}, Many: 2, Check: Check{1}}
		if l, e := Unshard(task, a, b); e != api.OK || !slices.Equal(l, []uint64{14, 0}) {
			t.Errorf("P15.2: Unshard: %v, %d", l, e)
		}
		more, other, short, great := b, b, b, b
		more.Many, more.Check, more.Sum = 3, Check{}, nil
		other.Check, other.Sum = Check{}, nil
		short.Sum = b.Sum[:1]
		great.Sum = []api.Elem{f.Neg(api.Elem{85}), {3}}
		_, e1 := Unshard(task, a, more)
		_, e2 := Unshard(task, a, other)
		_, e3 := Unshard(task, a, short)
		_, e4 := Unshard(task, short, short)
		_, e5 := Unshard(task, a, great)
		if e1 != api.ErrCount || e2 != api.ErrCheck || e3 != api.ErrSize || e4 != api.ErrSize || e5 != api.ErrRange {
			t.Errorf("P15.2: Unshard: %d, %d, %d, %d, %d", e1, e2, e3, e4, e5)
		}
		a.Many, b.Many = 257, 257
		if _, e := Unshard(task, a, b); e != api.ErrRange {
			t.Errorf("P15.2: Unshard of 257: %d", e)
		}
	}
}

func TestBytes(t *testing.T) {
	for _, f := range fields {
		task := sums(f)
		x := Total{Sum: []api.Elem{{1}, {2}}, Many: 256, Check: Check{3, 15: 4}}
		b := x.Put(task)
		if !bytes.Equal(b, slices.Concat([]byte{0, 1, 0, 0}, x.Check[:], f.Vec(x.Sum))) {
			t.Errorf("P15.2: Put: %v", b)
		}
		if y, e := Take(task, b); e != api.OK || !Same(x, y) {
			t.Errorf("P15.2: Take: %v, %d", y, e)
		}
		long := append(slices.Clone(b), 0)
		many := slices.Clone(b)
		many[0] = 1
		wrong := slices.Concat(b[:20], bytes.Repeat([]byte{255}, f.Size()), b[20+f.Size():])
		both := slices.Concat(many[:20], wrong[20:])
		_, e1 := Take(task, b[1:])
		_, e2 := Take(task, long)
		y, e3 := Take(task, many)
		_, e4 := Take(task, wrong)
		_, e5 := Take(task, both)
		_, e6 := Take(task, append(both, 0))
		if e1 != api.ErrShort || e2 != api.ErrRest || e3 != api.ErrRange || e4 != api.ErrField || e5 != api.ErrRange || e6 != api.ErrRest || !Same(y, Total{}) {
			t.Errorf("P15.2: Take: %d, %d, %d, %d, %d, %d", e1, e2, e3, e4, e5, e6)
		}
	}
}

func TestSame(t *testing.T) {
	x := Total{Sum: []api.Elem{{1}}, Many: 2, Check: Check{3}}
	if !Same(x, Total{Sum: []api.Elem{{1}}, Many: 2, Check: Check{3}}) || !Same(Total{}, Total{Sum: []api.Elem{}}) {
		t.Error("P15.1: Same")
	}
	for _, y := range []Total{{Sum: []api.Elem{{2}}, Many: 2, Check: Check{3}}, {Many: 2, Check: Check{3}}, {Sum: []api.Elem{{1}}, Many: 1, Check: Check{3}}, {Sum: []api.Elem{{1}}, Many: 2}} {
		if Same(x, y) {
			t.Errorf("P15.1: Same as %v", y)
		}
	}
}

func TestExamples(t *testing.T) {
	task := sums(field.Large)
	a, _ := New(task).Add(task, api.Id{1}, []api.Elem{{1}, {2}})
	a, _ = a.Add(task, api.Id{2}, []api.Elem{{3}, {4}})
	b, _ := New(task).Add(task, api.Id{2}, []api.Elem{{3}, {4}})
	b, _ = b.Add(task, api.Id{1}, []api.Elem{{1}, {2}})
	if !Same(a, b) {
		t.Error("example: in either order")
	}
}
