package bucket

import (
	"slices"
	"testing"

	"tallyman/api"
	"tallyman/circuit"
	"tallyman/field"
	"tallyman/share"
	"tallyman/total"
)

var task = share.Task{Circuit: circuit.Circuit{Kind: circuit.Sum, Field: field.Small, Bits: 8}, Proofs: 1}

func book(t *testing.T, r Rules) *Book {
	t.Helper()
	b, e := New(task, r)
	if e != api.OK {
		t.Fatal(e)
	}
	return b
}

func out(n uint64) []api.Elem { return []api.Elem{{n}} }

func TestCheckAndStart(t *testing.T) {
	for _, c := range []struct {
		r    Rules
		want api.Errno
	}{
		{Rules{1, 1, 1}, api.OK}, {Rules{1 << 40, 256, 256}, api.OK}, {Rules{0, 1, 1}, api.ErrRange}, {Rules{1<<40 + 1, 1, 1}, api.ErrRange}, {Rules{1, 0, 1}, api.ErrRange},
		{Rules{1, -1, 1}, api.ErrRange}, {Rules{1, 3, 2}, api.ErrRange}, {Rules{1, 1, 257}, api.ErrRange},
	} {
		b, e := New(task, c.r)
		if c.r.Check(task) != c.want || e != c.want || (b != nil) != (e == api.OK) {
			t.Errorf("P19.1: Check of %v: %d, New: %d", c.r, c.r.Check(task), e)
		}
		if e := c.r.Check(share.Task{}); e != api.ErrField {
			t.Errorf("P19.1: Check of a wrong task: %d", e)
		}
	}
	for _, c := range [][3]uint64{{10, 0, 0}, {10, 9, 0}, {10, 10, 10}, {10, 19, 10}, {0, 17, 17}, {1, 17, 17}, {7, 1<<64 - 1, 1<<64 - 2}} {
		if (Rules{Window: c[0]}).Start(c[1]) != c[2] {
			t.Errorf("P19.1: Start(%d) of %d", c[1], c[0])
		}
	}
}

func TestAddCloseGet(t *testing.T) {
	b := book(t, Rules{10, 2, 3})
	in := out(5)
	if b.Add(12, api.Id{1}, in) != api.OK || b.Add(7, api.Id{2}, out(6)) != api.OK || b.Add(19, api.Id{3}, out(7)) != api.OK {
		t.Error("P19.1: Add")
	}
	in[0] = api.Elem{99}
	x, is := b.Get(10)
	want := total.Total{Sum: out(12), Many: 2, Check: total.OfId(api.Id{1}).With(total.OfId(api.Id{3}))}
	if !is || x.Start != 10 || x.Closed || !total.Same(x.Total, want) {
		t.Errorf("P19.2: Get: %v", x)
	}
	x.Total.Sum[0] = api.Elem{77}
	if x, is := b.Get(12); is || x.Total.Sum != nil {
		t.Error("P19.2: Get of no beginning")
	}
	for start, want := range map[uint64]api.Errno{12: api.ErrTime, 1<<40 + 10: api.ErrTime, 1<<64 - 6: api.ErrTime, 20: api.ErrNone, 0: api.ErrFew} {
		if x, e := b.Close(start); e != want || !total.Same(x, total.Total{}) {
			t.Errorf("P19.2: Close(%d): %d", start, e)
		}
	}
	for range 2 {
		x, e := b.Close(10)
		if e != api.OK || !total.Same(x, want) {
			t.Errorf("P19.2: Close: %v, %d", x, e)
		}
		x.Sum[0] = api.Elem{77}
	}
	if b.Fits(15) != api.ErrClosed || b.Add(15, api.Id{4}, out(1)) != api.ErrClosed || b.Fits(5) != api.OK {
		t.Error("P19.1: ErrClosed")
	}
	l := b.List()
	if len(l) != 2 || l[0].Start != 0 || l[1].Start != 10 || l[0].Closed || !l[1].Closed || !total.Same(l[1].Total, want) {
		t.Errorf("P19.2: List: %v", l)
	}
	l[1].Total.Sum[0] = api.Elem{77}
	if x, _ := b.Get(10); !slices.Equal(x.Total.Sum, out(12)) {
		t.Error("R6: shared memory")
	}
	if b.Rules() != (Rules{10, 2, 3}) {
		t.Error("P19.2: Rules")
	}
}

func TestFits(t *testing.T) {
	b := book(t, Rules{10, 1, 2})
	if b.Fits(1<<40+1) != api.ErrTime || b.Add(1<<40+1, api.Id{}, nil) != api.ErrTime || b.Fits(1<<40) != api.OK {
		t.Error("P19.1: ErrTime")
	}
	if b.Add(3, api.Id{}, nil) != api.ErrSize || len(b.List()) != 0 {
		t.Error("R4: an error leaves no window")
	}
	for i := range uint64(32) {
		if b.Add(i*10+5, api.Id{byte(i)}, out(1)) != api.OK {
			t.Errorf("P19.1: window %d", i)
		}
	}
	if b.Fits(320) != api.ErrMany || b.Add(320, api.Id{}, out(1)) != api.ErrMany || b.Fits(1<<40+1) != api.ErrTime {
		t.Error("P19.1: the 33rd window")
	}
	if b.Add(0, api.Id{99}, out(1)) != api.OK || b.Fits(0) != api.ErrFull || b.Add(9, api.Id{98}, out(1)) != api.ErrFull {
		t.Error("P19.1: ErrFull")
	}
	b.Close(0)
	if b.Fits(0) != api.ErrClosed || b.Fits(320) != api.ErrMany {
		t.Error("P19.1: closed ahead of full")
	}
}

func TestNil(t *testing.T) {
	var b *Book
	x, e := b.Close(0)
	y, is := b.Get(0)
	if b.Fits(0) != api.ErrNil || b.Add(0, api.Id{}, nil) != api.ErrNil || e != api.ErrNil || !total.Same(x, total.Total{}) || is || y.Start != 0 || b.List() != nil || b.Rules() != (Rules{}) {
		t.Error("R7: nil")
	}
	var zero Book
	zero.Add(5, api.Id{}, nil)
	zero.Close(5)
	zero.Get(5)
}

func TestExamples(t *testing.T) {
	r := Rules{Window: 10}
	if r.Start(10) != 10 || r.Start(19) != 10 || r.Start(20) != 20 || r.Start(9) != 0 {
		t.Error("example: Window 10")
	}
}
