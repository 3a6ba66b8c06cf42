package ntt

import (
	"math/rand"
	"slices"
	"testing"

	"tallyman/api"
	"tallyman/field"
)

var fields = []field.Field{field.Small, field.Large}

func drawn(f field.Field, many int) []api.Elem {
	r := rand.New(rand.NewSource(int64(many)))
	l := make([]api.Elem, many)
	for i := range l {
		l[i] = f.Add(api.Elem{r.Uint64(), r.Uint64()}, api.Elem{})
	}
	return l
}

func TestLog(t *testing.T) {
	powers := 0
	for n := -5; n <= 3000; n++ {
		log, ok := Log(n)
		if ok {
			powers++
			if n != 1<<log {
				t.Errorf("P4.1: Log(%d) = %d", n, log)
			}
		} else if log != 0 {
			t.Errorf("R3: Log(%d) = %d", n, log)
		}
	}
	if powers != 11 {
		t.Errorf("P4.1: %d powers", powers)
	}
	for _, n := range []int{-1 << 63, 1 << 62, 1<<63 - 1} {
		if _, ok := Log(n); ok {
			t.Errorf("P4.1: Log(%d)", n)
		}
	}
}

func TestNext(t *testing.T) {
	for n, want := range map[int]int{-1 << 63: 1, 0: 1, 1: 1, 2: 2, 3: 4, 4: 4, 5: 8, 511: 512, 512: 512, 513: 1024, 1024: 1024, 1025: 1024, 1<<63 - 1: 1024} {
		if Next(n) != want {
			t.Errorf("P4.1: Next(%d) = %d", n, Next(n))
		}
	}
}

func TestPoints(t *testing.T) {
	for _, f := range fields {
		for log := range 11 {
			l, e := Points(f, log)
			root, _ := f.Root(log)
			if e != api.OK || len(l) != 1<<log || l[0] != f.One() {
				t.Fatalf("P4.1: Points(%d): %d", log, e)
			}
			for i := range l {
				if l[i] != f.Pow(root, uint64(i)) {
					t.Fatalf("P4.1: Points(%d), place %d", log, i)
				}
			}
		}
		for _, log := range []int{-1, 11, 1<<63 - 1} {
			if l, e := Points(f, log); l != nil || e != api.ErrRange {
				t.Errorf("P4.1: Points(%d): %d", log, e)
			}
		}
	}
	if l, e := Points(3, -1); l != nil || e != api.ErrKind {
		t.Errorf("P4.1: Points of no field: %d", e)
	}
}

func at(f field.Field, coefs []api.Elem, x api.Elem) api.Elem {
	var sum api.Elem
	for i := len(coefs) - 1; i >= 0; i-- {
		sum = f.Add(f.Mul(sum, x), coefs[i])
	}
	return sum
}

func TestValuesAndCoefs(t *testing.T) {
	for _, f := range fields {
		for log := range 11 {
			coefs := drawn(f, 1<<log)
			kept := slices.Clone(coefs)
			values, e := Values(f, coefs)
			points, _ := Points(f, log)
			if e != api.OK || len(values) != len(points) {
				t.Fatalf("P4.2: Values of 2^%d: %d", log, e)
			}
			for i := 0; i < len(points); i += 1 + len(points)/16 {
				if values[i] != at(f, coefs, points[i]) {
					t.Fatalf("P4.2: Values of 2^%d, place %d", log, i)
				}
			}
			back, e := Coefs(f, values)
			if e != api.OK || !slices.Equal(back, coefs) || !slices.Equal(kept, coefs) {
				t.Fatalf("P4.2: Coefs of 2^%d: %d", log, e)
			}
		}
	}
}

func TestWrongSizes(t *testing.T) {
	for _, size := range []int{0, 3, 5, 1000, 1025, 2048} {
		for _, f := range fields {
			v, e1 := Values(f, make([]api.Elem, size))
			c, e2 := Coefs(f, make([]api.Elem, size))
			if e1 != api.ErrSize || e2 != api.ErrSize || v != nil || c != nil {
				t.Errorf("P4.2: %d elements: %d, %d", size, e1, e2)
			}
		}
		_, e1 := Values(0, make([]api.Elem, size))
		_, e2 := Coefs(0, make([]api.Elem, size))
		if e1 != api.ErrKind || e2 != api.ErrKind {
			t.Errorf("P4.2: no field: %d, %d", e1, e2)
		}
	}
}

func TestAnswersAreElements(t *testing.T) {
	big := api.Elem{1<<64 - 1, 1<<64 - 1}
	for _, f := range fields {
		v, _ := Values(f, []api.Elem{big})
		c, _ := Coefs(f, []api.Elem{big})
		if !f.In(v[0]) || !f.In(c[0]) {
			t.Error("P4.2: what is answered isn't of the field")
		}
	}
}

func TestExamples(t *testing.T) {
	if v, e := Values(field.Small, []api.Elem{{1}, {1}}); e != api.OK || !slices.Equal(v, []api.Elem{{2}, {}}) {
		t.Errorf("example: Values of 1, 1: %v, %d", v, e)
	}
}
