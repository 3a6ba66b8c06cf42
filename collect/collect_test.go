package collect

import (
	"slices"
	"testing"

	"tallyman/api"
	"tallyman/circuit"
	"tallyman/field"
	"tallyman/msg"
	"tallyman/share"
	"tallyman/total"
)

var task = share.Task{Circuit: circuit.Circuit{Kind: circuit.Sum, Field: field.Small, Bits: 4}, Proofs: 1}

var check = total.Check{7}

func open(t *testing.T) *Collector {
	t.Helper()
	c, e := New(task)
	if e != api.OK {
		t.Fatal(e)
	}
	return c
}

// answered is an Answer with a share of a window.
func answered(job, start uint64, x total.Total) msg.Message {
	return msg.Message{Kind: msg.Answer, Job: job, Start: start, Many: x.Many, Sum: x.Check, Entries: []msg.Entry{{Share: x.Put(task)}}}
}

func of(n uint64) total.Total {
	return total.Total{Sum: []api.Elem{{n}}, Many: 3, Check: check}
}

// negative is a share that makes n of 100.
func negative(n uint64) total.Total {
	x := of(0)
	x.Sum[0] = field.Small.Sub(api.Elem{n}, api.Elem{100})
	return x
}

func sameResult(a, b Result) bool {
	return a.Start == b.Start && a.Many == b.Many && a.Code == b.Code && slices.Equal(a.Sums, b.Sums)
}

// times are when a collector asks, from a time on till another one.
func times(c *Collector, from, to uint64) []uint64 {
	var l []uint64
	for now := from; now < to; now++ {
		for range c.Tick(now) {
			l = append(l, now)
		}
	}
	return l
}

func TestWant(t *testing.T) {
	if c, e := New(share.Task{}); c != nil || e != api.ErrField {
		t.Errorf("P25.1: New: %d", e)
	}
	c := open(t)
	if busy, many := c.Busy(); busy || many != 0 || c.Tick(0) != nil {
		t.Error("P25.1: nothing is wanted")
	}
	if c.Want(1<<40+1) != api.ErrTime || c.Want(1<<40) != api.OK || c.Want(1<<40) != api.ErrExists || c.Want(1<<40+1) != api.ErrTime {
		t.Error("P25.1: Want")
	}
	c.Tick(3)
	if busy, many := c.Busy(); !busy || many != 0 || c.Want(1<<40) != api.ErrExists {
		t.Error("P25.1: what is being collected")
	}
	for i := range uint64(32) {
		if e := c.Want(i); e != api.OK {
			t.Errorf("P25.1: window %d: %d", i, e)
		}
	}
	if _, many := c.Busy(); many != 32 || c.Want(32) != api.ErrMany || c.Want(31) != api.ErrExists {
		t.Error("P25.1: 32 are wanted")
	}
}

func TestTick(t *testing.T) {
	c := open(t)
	c.Want(10)
	c.Want(20)
	l := c.Tick(5)
	if len(l) != 1 || l[0].To != FromLeader || !msg.Same(l[0].Message, msg.Message{Kind: msg.Collect, Job: 1, Start: 10}) {
		t.Errorf("P25.1: Tick: %v", l)
	}
	if l := times(c, 5, 60); !slices.Equal(l, []uint64{6, 8, 12, 20, 36, 52}) {
		t.Errorf("P25.1: due at %v", l)
	}
}

func TestCollect(t *testing.T) {
	c := open(t)
	c.Want(10)
	c.Want(20)
	c.Tick(0)
	// The leader's share came: the helper is asked at once.
	l, e := c.Receive(9, FromLeader, answered(1, 10, of(100)))
	ask := msg.Message{Kind: msg.Ask, Job: 1, Start: 10, Many: 3, Sum: check}
	if e != api.OK || len(l) != 1 || l[0].To != FromHelper || !msg.Same(l[0].Message, ask) {
		t.Errorf("P25.2: the helper is asked: %v, %d", l, e)
	}
	if l := times(c, 9, 60); !slices.Equal(l, []uint64{10, 11, 13, 17, 25, 41, 57}) {
		t.Errorf("P25.2: due at %v", l)
	}
	if _, e := c.Receive(60, FromLeader, answered(1, 10, of(100))); e != api.ErrNone {
		t.Errorf("P25.2: not from whom is asked: %d", e)
	}
	if l, e := c.Receive(60, FromHelper, answered(1, 10, negative(17))); e != api.OK || len(l) != 0 {
		t.Errorf("P25.2: the helper's share: %v, %d", l, e)
	}
	r := c.Results()
	if len(r) != 1 || !sameResult(r[0], Result{Start: 10, Many: 3, Sums: []uint64{17}}) {
		t.Errorf("P25.2: Results: %v", r)
	}
	r[0].Sums[0] = 99
	if c.Results()[0].Sums[0] != 17 {
		t.Error("R6: Results share memory")
	}
	if busy, many := c.Busy(); busy || many != 1 {
		t.Error("P25.2: Busy")
	}
	if l := c.Tick(61); len(l) != 1 || !msg.Same(l[0].Message, msg.Message{Kind: msg.Collect, Job: 2, Start: 20}) {
		t.Errorf("P25.1: the next one: %v", l)
	}
	if c.Want(10) != api.OK {
		t.Error("P25.1: what ended may be wanted again")
	}
}

func TestReceiveErrors(t *testing.T) {
	c := open(t)
	good := answered(1, 10, of(1))
	if _, e := c.Receive(0, FromLeader, good); e != api.ErrNone {
		t.Errorf("P25.2: none is being collected: %d", e)
	}
	c.Want(10)
	if _, e := c.Receive(0, FromLeader, good); e != api.ErrNone {
		t.Errorf("P25.2: it is only wanted: %d", e)
	}
	c.Tick(0)
	for i, x := range []struct {
		from  int
		wrong func(m *msg.Message)
		want  api.Errno
	}{
		{FromLeader, func(m *msg.Message) { m.Code = 32 }, api.ErrRange}, {FromLeader, func(m *msg.Message) { m.Kind = msg.Reply }, api.ErrKind}, {FromLeader, func(m *msg.Message) { m.Kind = 0 }, api.ErrKind},
		{FromLeader, func(m *msg.Message) { m.Job = 2 }, api.ErrNone}, {FromLeader, func(m *msg.Message) { m.Start = 20 }, api.ErrNone}, {FromHelper, func(m *msg.Message) {}, api.ErrNone}, {-1, func(m *msg.Message) {}, api.ErrNone},
		{FromLeader, func(m *msg.Message) { m.Code = api.ErrWait }, api.OK}, {FromLeader, func(m *msg.Message) { m.Entries = nil }, api.ErrForm}, {FromLeader, func(m *msg.Message) { m.Entries = make([]msg.Entry, 2) }, api.ErrForm},
		{FromHelper, func(m *msg.Message) { m.Code = api.ErrWait }, api.ErrNone},
	} {
		m := good.Clone()
		x.wrong(&m)
		if l, e := c.Receive(5, x.from, m); e != x.want || len(l) != 0 || len(c.Results()) != 0 {
			t.Errorf("P25.2: case %d: %d", i, e)
		}
	}
	if l := times(c, 0, 4); !slices.Equal(l, []uint64{1, 3}) {
		t.Errorf("P25.2: nothing is done: due at %v", l)
	}
}

func TestWindowsThatEnd(t *testing.T) {
	for i, x := range []struct {
		wrong func(m *msg.Message)
		want  api.Errno
	}{
		{func(m *msg.Message) { m.Code = api.ErrFew }, api.ErrFew}, {func(m *msg.Message) { m.Code, m.Entries = api.ErrCount, nil }, api.ErrCount}, {func(m *msg.Message) { m.Many = 2 }, api.ErrForm}, {func(m *msg.Message) { m.Sum[0]++ }, api.ErrForm},
		{func(m *msg.Message) { m.Entries[0].Share = nil }, api.ErrForm}, {func(m *msg.Message) { m.Entries[0].Share = append(m.Entries[0].Share, 0) }, api.ErrForm},
	} {
		for _, from := range []int{FromLeader, FromHelper} {
			c := open(t)
			c.Want(10)
			c.Tick(0)
			if from == FromHelper {
				c.Receive(1, FromLeader, answered(1, 10, of(100)))
			}
			m := answered(1, 10, negative(17))
			x.wrong(&m)
			if l, e := c.Receive(2, from, m); e != api.OK || len(l) != 0 || len(c.Results()) != 1 || !sameResult(c.Results()[0], Result{Start: 10, Code: x.want}) {
				t.Errorf("P25.2: case %d: %v, %d", i, c.Results(), e)
			}
			if busy, _ := c.Busy(); busy {
				t.Error("P25.2: it ended")
			}
		}
	}
}

func TestUnshardsError(t *testing.T) {
	for i, x := range []struct {
		second total.Total
		want   api.Errno
	}{{total.Total{Sum: []api.Elem{{1}}, Many: 2, Check: check}, api.ErrCount}, {total.Total{Sum: []api.Elem{{1}}, Many: 3}, api.ErrCheck}, {negative(46), api.ErrRange}, {negative(45), api.OK}} {
		c := open(t)
		c.Want(10)
		c.Tick(0)
		c.Receive(1, FromLeader, answered(1, 10, of(100)))
		if _, e := c.Receive(1, FromHelper, answered(1, 10, x.second)); e != api.OK || c.Results()[0].Code != x.want || (x.want != api.OK && (c.Results()[0].Many != 0 || c.Results()[0].Sums != nil)) {
			t.Errorf("P25.2: case %d: %v, %d", i, c.Results(), e)
		}
	}
}

func TestNil(t *testing.T) {
	var c *Collector
	_, e := c.Receive(0, 0, msg.Message{})
	busy, many := c.Busy()
	if c.Want(1<<50) != api.ErrNil || e != api.ErrNil || c.Tick(0) != nil || c.Results() != nil || busy || many != 0 {
		t.Error("R7: nil")
	}
	var zero Collector
	zero.Want(1)
	zero.Tick(0)
	zero.Receive(0, 0, answered(1, 1, of(1)))
}

func TestExamples(t *testing.T) {
	c := open(t)
	c.Want(0)
	if l := c.Tick(0); len(l) != 1 || l[0].To != FromLeader || l[0].Message.Kind != msg.Collect {
		t.Errorf("example: %v", l)
	}
}
