package field

import (
	"bytes"
	"slices"
	"testing"

	"tallyman/api"
	"tallyman/gold"
	"tallyman/wide"
)

func samples() []api.Elem {
	return []api.Elem{{}, {1}, {2}, {5, 9}, {gold.P - 1}, {gold.P}, {gold.P + 3, 1}, {1<<64 - 1, 1<<64 - 1}, {0, 1<<64 - 28}, {1, 1<<64 - 28}, {3, 1<<64 - 28}, {77, 1 << 40}}
}

func TestNumbers(t *testing.T) {
	if Small != 1 || Large != 2 {
		t.Error("the fields' numbers")
	}
	if !Small.Valid() || !Large.Valid() || Small.Size() != 8 || Large.Size() != 16 || Small.Roots() != 32 || Large.Roots() != 66 {
		t.Error("P3.1: Valid, Size, Roots")
	}
}

func TestNoField(t *testing.T) {
	a, b, zero := api.Elem{3}, []api.Elem{{1}}, api.Elem{}
	for _, f := range []Field{0, 3, 255} {
		if f.Valid() || f.Size() != 0 || f.Roots() != 0 || f.In(zero) {
			t.Error("P3.1: no field: questions")
		}
		if f.Of(1) != zero || f.One() != zero || f.Add(a, a) != zero || f.Sub(a, zero) != zero || f.Neg(a) != zero || f.Mul(a, a) != zero || f.Pow(a, 0) != zero {
			t.Error("P3.1: no field: elements")
		}
		if f.Bytes(a) != nil || f.Vec(b) != nil || f.Sum(a) != zero || f.Powers(a, 3) != nil {
			t.Error("P3.1: no field: lists")
		}
		_, e1 := f.Inv(zero)
		_, e2 := f.Root(99)
		_, e3 := f.Take(nil)
		_, e4 := f.TakeVec(nil, -1)
		_, e5 := f.AddVec(b, nil)
		_, e6 := f.SubVec(b, nil)
		_, e7 := f.Dot(b, nil)
		_, e8 := f.InvVec(make([]api.Elem, 5000))
		for i, e := range []api.Errno{e1, e2, e3, e4, e5, e6, e7, e8} {
			if e != api.ErrKind {
				t.Errorf("P3.1: no field: error %d is %d", i, e)
			}
		}
	}
}

func TestSmallIsGold(t *testing.T) {
	for _, a := range samples() {
		if Small.In(a) != (a[1] == 0 && a[0] < gold.P) {
			t.Errorf("P3.1: In(%v)", a)
		}
		if Small.Of(a[0]) != (api.Elem{gold.Of(a[0])}) || Small.Neg(a) != (api.Elem{gold.Neg(a[0])}) || Small.Pow(a, 5) != (api.Elem{gold.Pow(a[0], 5)}) {
			t.Errorf("P3.1: Of, Neg, Pow of %v", a)
		}
		n, e := Small.Inv(a)
		if m, f := gold.Inv(a[0]); n != (api.Elem{m}) || e != f {
			t.Errorf("P3.1: Inv(%v)", a)
		}
		for _, b := range samples() {
			if Small.Add(a, b) != (api.Elem{gold.Add(a[0], b[0])}) || Small.Sub(a, b) != (api.Elem{gold.Sub(a[0], b[0])}) || Small.Mul(a, b) != (api.Elem{gold.Mul(a[0], b[0])}) {
				t.Errorf("P3.1: %v, %v", a, b)
			}
		}
	}
}

func TestLargeIsWide(t *testing.T) {
	for _, a := range samples() {
		if Large.In(a) != wide.In(a) || Large.Of(a[0]) != (api.Elem{a[0]}) || Large.Neg(a) != wide.Neg(a) || Large.Pow(a, 5) != wide.Pow(a, api.Elem{5}) {
			t.Errorf("P3.1: In, Of, Neg, Pow of %v", a)
		}
		n, e := Large.Inv(a)
		if m, f := wide.Inv(a); n != m || e != f {
			t.Errorf("P3.1: Inv(%v)", a)
		}
		for _, b := range samples() {
			if Large.Add(a, b) != wide.Add(a, b) || Large.Sub(a, b) != wide.Sub(a, b) || Large.Mul(a, b) != wide.Mul(a, b) {
				t.Errorf("P3.1: %v, %v", a, b)
			}
		}
	}
}

func TestRoot(t *testing.T) {
	for _, f := range []Field{Small, Large} {
		for _, log := range []int{-1, f.Roots() + 1} {
			if r, e := f.Root(log); r != (api.Elem{}) || e != api.ErrRange {
				t.Errorf("P3.1: Root(%d) is %v, %d", log, r, e)
			}
		}
		for log := range f.Roots() + 1 {
			r, e := f.Root(log)
			for range log {
				r = f.Mul(r, r)
			}
			if e != api.OK || r != f.One() {
				t.Errorf("P3.1: Root(%d)", log)
			}
		}
	}
}

func TestBytes(t *testing.T) {
	if !bytes.Equal(Small.Bytes(api.Elem{258, 9}), []byte{2, 1, 0, 0, 0, 0, 0, 0}) {
		t.Error("P3.1: Bytes of Small")
	}
	if !bytes.Equal(Large.Bytes(api.Elem{258, 9}), []byte{2, 1, 0, 0, 0, 0, 0, 0, 9, 0, 0, 0, 0, 0, 0, 0}) {
		t.Error("P3.1: Bytes of Large")
	}
	for _, f := range []Field{Small, Large} {
		for _, size := range []int{0, 7, 9, 15, 17} {
			if a, e := f.Take(make([]byte, size)); a != (api.Elem{}) || e != api.ErrSize {
				t.Errorf("P3.1: Take of %d bytes: %d", size, e)
			}
		}
		if _, e := f.Take(bytes.Repeat([]byte{255}, f.Size())); e != api.ErrField {
			t.Errorf("P3.1: Take of what is none: %d", e)
		}
		for _, a := range samples() {
			if b, e := f.Take(f.Bytes(a)); e != api.OK || b != f.Add(a, api.Elem{}) {
				t.Errorf("P3.1: Take of Bytes of %v", a)
			}
		}
	}
}

func TestVec(t *testing.T) {
	l := []api.Elem{{1}, {2}, {3}}
	for _, f := range []Field{Small, Large} {
		b := f.Vec(l)
		if len(b) != 3*f.Size() || !bytes.Equal(b[f.Size():2*f.Size()], f.Bytes(l[1])) {
			t.Error("P3.2: Vec")
		}
		if got, e := f.TakeVec(b, 3); e != api.OK || !slices.Equal(got, l) {
			t.Error("P3.2: TakeVec")
		}
		if got, e := f.TakeVec(nil, 0); e != api.OK || len(got) != 0 {
			t.Error("P3.2: TakeVec of none")
		}
		for _, many := range []int{-1, 4097, 1<<63 - 1} {
			if _, e := f.TakeVec(b, many); e != api.ErrRange {
				t.Errorf("P3.2: TakeVec of %d: %d", many, e)
			}
		}
		if _, e := f.TakeVec(make([]byte, 4096*f.Size()), 4096); e != api.OK {
			t.Error("P3.2: TakeVec of 4096")
		}
		for _, many := range []int{2, 4} {
			if _, e := f.TakeVec(b, many); e != api.ErrSize {
				t.Errorf("P3.2: TakeVec of %d: %d", many, e)
			}
		}
		copy(b[f.Size():], bytes.Repeat([]byte{255}, f.Size()))
		if got, e := f.TakeVec(b, 3); e != api.ErrField || got != nil {
			t.Errorf("P3.2: TakeVec of what is none: %d", e)
		}
	}
}

func TestPlaceByPlace(t *testing.T) {
	for _, f := range []Field{Small, Large} {
		a, b := []api.Elem{{1}, {2}, f.Neg(f.One())}, []api.Elem{{3}, {4}, {5}}
		if l, e := f.AddVec(a, b); e != api.OK || !slices.Equal(l, []api.Elem{{4}, {6}, {4}}) {
			t.Error("P3.2: AddVec")
		}
		if l, e := f.SubVec(b, a); e != api.OK || !slices.Equal(l, []api.Elem{{2}, {2}, {6}}) {
			t.Error("P3.2: SubVec")
		}
		if n, e := f.Dot(a, b); e != api.OK || n != (api.Elem{6}) {
			t.Error("P3.2: Dot")
		}
		if n, e := f.Dot(nil, []api.Elem{}); e != api.OK || n != (api.Elem{}) {
			t.Error("P3.2: Dot of none")
		}
		_, e1 := f.AddVec(a, b[:2])
		_, e2 := f.SubVec(a[:2], b)
		n, e3 := f.Dot(a, nil)
		if e1 != api.ErrSize || e2 != api.ErrSize || e3 != api.ErrSize || n != (api.Elem{}) {
			t.Error("P3.2: ErrSize")
		}
		if a[0] != (api.Elem{1}) || b[0] != (api.Elem{3}) {
			t.Error("R6: what is handed in is changed")
		}
		if f.Sum() != (api.Elem{}) || f.Sum(b...) != (api.Elem{12}) || f.Sum(f.Neg(f.One()), f.One()) != (api.Elem{}) {
			t.Error("P3.2: Sum")
		}
	}
}

func TestPowers(t *testing.T) {
	for _, f := range []Field{Small, Large} {
		if l := f.Powers(api.Elem{3}, 4); !slices.Equal(l, []api.Elem{{1}, {3}, {9}, {27}}) {
			t.Errorf("P3.2: Powers: %v", l)
		}
		if l := f.Powers(api.Elem{}, 2); !slices.Equal(l, []api.Elem{{1}, {}}) {
			t.Errorf("P3.2: Powers of 0: %v", l)
		}
		if len(f.Powers(api.Elem{3}, 0)) != 0 || len(f.Powers(api.Elem{3}, -1)) != 0 || len(f.Powers(api.Elem{3}, 1<<63-1)) != 4096 {
			t.Error("P3.2: how many Powers")
		}
	}
}

func TestInvVec(t *testing.T) {
	for _, f := range []Field{Small, Large} {
		l := f.Powers(api.Elem{5}, 4096)
		got, e := f.InvVec(l)
		if e != api.OK || len(got) != 4096 {
			t.Fatalf("P3.2: InvVec: %d", e)
		}
		for i, a := range got {
			if !f.In(a) || f.Mul(a, l[i]) != f.One() {
				t.Fatalf("P3.2: InvVec, place %d", i)
			}
		}
		if got, e := f.InvVec(nil); e != api.OK || len(got) != 0 {
			t.Error("P3.2: InvVec of none")
		}
		if _, e := f.InvVec(make([]api.Elem, 4097)); e != api.ErrRange {
			t.Errorf("P3.2: InvVec of 4097: %d", e)
		}
		if got, e := f.InvVec([]api.Elem{{1}, {}, {2}}); e != api.ErrDivide || got != nil {
			t.Errorf("P3.2: InvVec with 0: %d", e)
		}
	}
	if _, e := Small.InvVec([]api.Elem{{1}, {0, 7}}); e != api.ErrDivide {
		t.Error("P3.1: the low half counts alone")
	}
}

func TestExamples(t *testing.T) {
	if n, e := Small.Dot([]api.Elem{{1}, {2}}, []api.Elem{{3}, {4}}); e != api.OK || n != (api.Elem{11}) {
		t.Error("example: Small.Dot")
	}
}
