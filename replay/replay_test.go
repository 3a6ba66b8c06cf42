package replay

import (
	"math/rand"
	"slices"
	"testing"

	"tallyman/api"
)

func id(n byte) api.Id { return api.Id{n, 15: 255 - n} }

func TestCompare(t *testing.T) {
	if Compare(api.Id{1}, api.Id{1}) != 0 || Compare(api.Id{1}, api.Id{2}) >= 0 || Compare(api.Id{200}, api.Id{100}) <= 0 || Compare(api.Id{15: 1}, api.Id{14: 1}) >= 0 {
		t.Error("P18.1: Compare")
	}
}

func TestAddGetSet(t *testing.T) {
	x := New(2)
	a := Seen{id(1), 5, api.ErrWait}
	if x.Room() != 2 || x.Add(a) != api.OK || x.Len() != 1 || x.Room() != 1 {
		t.Error("P18.1: Add")
	}
	if s, is := x.Get(id(1)); !is || s != a {
		t.Error("P18.1: Get")
	}
	if s, is := x.Get(id(2)); is || s != (Seen{}) {
		t.Error("P18.1: Get of none")
	}
	if x.Set(id(2), api.OK) != api.ErrNone || x.Set(id(1), 77) != api.OK {
		t.Error("P18.1: Set")
	}
	if s, _ := x.Get(id(1)); s != (Seen{id(1), 5, 77}) {
		t.Errorf("P18.1: Set: %v", s)
	}
	if x.Add(Seen{Id: id(1), Time: 1<<40 + 1}) != api.ErrRange || x.Add(Seen{Id: id(1)}) != api.ErrReplay || x.Add(Seen{Id: id(2), Time: 1 << 40}) != api.OK {
		t.Error("P18.1: Add's errors")
	}
	if x.Add(Seen{Id: id(1)}) != api.ErrReplay || x.Add(Seen{Id: id(3)}) != api.ErrFull || x.Len() != 2 {
		t.Error("P18.1: Add to what is full")
	}
}

func TestLimits(t *testing.T) {
	for limit, want := range map[int]int{-1 << 63: 0, -1: 0, 0: 0, 256: 256, 257: 256, 1<<63 - 1: 256} {
		if x := New(limit); x.Room() != want || x.Len() != 0 {
			t.Errorf("P18.1: New(%d) has room for %d", limit, x.Room())
		}
	}
}

func TestOrders(t *testing.T) {
	x := New(256)
	for _, n := range rand.New(rand.NewSource(3)).Perm(100) {
		x.Add(Seen{id(byte(n)), uint64(n*37) % 10, api.Errno(n)})
	}
	l := x.List()
	if len(l) != 100 || !slices.IsSortedFunc(l, func(a, b Seen) int { return Compare(a.Id, b.Id) }) {
		t.Error("P18.2: List")
	}
	l[0].Time = 99
	if x.List()[0].Time == 99 {
		t.Error("R6: List shares memory")
	}
	within := x.Within(3, 6)
	if len(within) != 30 {
		t.Errorf("P18.2: Within: %d", len(within))
	}
	for i, s := range within {
		if s.Time < 3 || s.Time >= 6 || i > 0 && (s.Time < within[i-1].Time || s.Time == within[i-1].Time && Compare(s.Id, within[i-1].Id) <= 0) {
			t.Errorf("P18.2: Within, place %d", i)
		}
	}
	if len(x.Within(6, 3)) != 0 || len(x.Within(0, 1<<64-1)) != 100 {
		t.Error("P18.2: Within")
	}
	if x.Drop(0) != 0 || x.Drop(4) != 40 || x.Len() != 60 || x.Room() != 196 || len(x.Within(0, 4)) != 0 {
		t.Error("P18.2: Drop")
	}
	if x.Drop(1<<64-1) != 60 || x.Len() != 0 {
		t.Error("P18.2: Drop of all")
	}
}

func TestUnlike(t *testing.T) {
	a, b := New(9), New(9)
	for _, s := range []Seen{{id(4), 1, 0}, {id(1), 1, 0}, {id(2), 1, 5}, {id(3), 1, 5}, {id(9), 2, 2}} {
		a.Add(s)
	}
	for _, s := range []Seen{{id(8), 1, 0}, {id(7), 1, 0}, {id(2), 1, 6}, {id(3), 2, 5}, {id(9), 2, 2}} {
		b.Add(s)
	}
	first, second, other := Unlike(a, b)
	if !slices.Equal(first, []Seen{{id(1), 1, 0}, {id(4), 1, 0}}) || !slices.Equal(second, []Seen{{id(7), 1, 0}, {id(8), 1, 0}}) || !slices.Equal(other, []Seen{{id(2), 1, 5}, {id(3), 1, 5}}) {
		t.Errorf("P18.2: Unlike: %v, %v, %v", first, second, other)
	}
	if first, second, other := Unlike(a, a); len(first)+len(second)+len(other) != 0 {
		t.Error("P18.2: Unlike of one")
	}
}

func TestNil(t *testing.T) {
	var x *Index
	s, is := x.Get(id(1))
	if x.Add(Seen{}) != api.ErrNil || x.Set(id(1), 1) != api.ErrNil || is || s != (Seen{}) || x.Len() != 0 || x.Room() != 0 || x.List() != nil || x.Within(0, 9) != nil || x.Drop(9) != 0 {
		t.Error("R7: nil")
	}
	Unlike(nil, nil)
	if (&Index{}).Add(Seen{}) != api.ErrFull {
		t.Error("P1: a zero Index")
	}
}

func TestExamples(t *testing.T) {
	x := New(5)
	if x.Add(Seen{Id: id(1)}) != api.OK || x.Add(Seen{Id: id(1)}) != api.ErrReplay {
		t.Error("example: Add twice")
	}
}
