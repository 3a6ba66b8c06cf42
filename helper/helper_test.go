package helper

import (
	"bytes"
	"testing"

	"tallyman/api"
	"tallyman/bucket"
	"tallyman/circuit"
	"tallyman/disk"
	"tallyman/field"
	"tallyman/msg"
	"tallyman/prep"
	"tallyman/share"
	"tallyman/store"
	"tallyman/total"
	"tallyman/xof"
)

var setup = Setup{
	Task:  share.Task{Circuit: circuit.Circuit{Kind: circuit.Histogram, Field: field.Small, Length: 3, Chunk: 2}, Proofs: 1, Tag: "t"},
	Rules: bucket.Rules{Window: 10, Min: 2, Max: 3},
	Key:   api.Seed{42},
	Limit: 6,
	Ahead: 5,
}

func open(t *testing.T, d *disk.Disk) *Helper {
	t.Helper()
	h, e := New(setup, xof.Real(), d)
	if e != api.OK {
		t.Fatal(e)
	}
	return h
}

func want(t *testing.T, what string, got, want api.Errno) {
	t.Helper()
	if got != want {
		t.Errorf("%s: %d, want %d", what, got, want)
	}
}

// report is a client's, as both get it, with what the leader says of it first.
type report struct {
	id             api.Id
	now            uint64
	public, helper []byte
	leader         share.Leader
	told           share.Public
}

func measured(t *testing.T, n byte, now uint64, in []api.Elem) report {
	t.Helper()
	id := api.Id{n}
	r := share.Random{Helper: api.Seed{n, 1}, First: api.Seed{n, 2}, Second: api.Seed{n, 3}, Prove: api.Seed{n, 4}}
	p, l, h, e := setup.Task.ShardVector(xof.Real(), id, in, r)
	if e != api.OK {
		t.Fatal(e)
	}
	return report{id, now, setup.Task.PutPublic(p), setup.Task.PutHelper(h), l, p}
}

func (r report) upload() msg.Message {
	return msg.Message{Kind: msg.Upload, Entries: []msg.Entry{{Id: r.id, Time: r.now, Public: r.public, Share: r.helper}}}
}

// asked is what the leader asks about it, and what it keeps for that.
func (r report) asked(t *testing.T) (msg.Entry, prep.State) {
	t.Helper()
	st, x, e := prep.Leader(setup.Task, xof.Real(), setup.Key, r.id, r.told, r.leader)
	if e != api.OK {
		t.Fatal(e)
	}
	return msg.Entry{Id: r.id, Time: r.now, Public: r.public, Share: prep.PutShare(setup.Task, x)}, st
}

var right = []api.Elem{{}, {1}, {}}

func receive(t *testing.T, h *Helper, m msg.Message) msg.Message {
	t.Helper()
	r, e := h.Receive(10, m)
	if e != api.OK || r.Check() != api.OK {
		t.Fatalf("%d, %d", e, r.Check())
	}
	return r
}

// told is what a helper replies about one entry.
func told(t *testing.T, h *Helper, x msg.Entry) msg.Entry {
	t.Helper()
	r := receive(t, h, msg.Message{Kind: msg.Init, Job: 7, Start: 3, Entries: []msg.Entry{x}})
	if r.Kind != msg.Reply || r.Job != 7 || r.Start != 0 || len(r.Entries) != 1 || r.Entries[0].Id != x.Id || r.Entries[0].Time != x.Time || len(r.Entries[0].Public) != 0 {
		t.Fatalf("P23.2: a Reply: %v", r)
	}
	if r.Entries[0].Code != api.OK && len(r.Entries[0].Share) != 0 {
		t.Errorf("R3: a share beside code %d", r.Entries[0].Code)
	}
	return r.Entries[0]
}

func TestSetup(t *testing.T) {
	d := disk.New(1 << 20)
	for i, c := range []struct {
		wrong func(x *Setup)
		want  api.Errno
	}{
		{func(x *Setup) {}, api.OK}, {func(x *Setup) { x.Task.Proofs = 0 }, api.ErrRange}, {func(x *Setup) { x.Task.Circuit.Field = 0 }, api.ErrField}, {func(x *Setup) { x.Rules.Min = 0 }, api.ErrRange},
		{func(x *Setup) { x.Limit = 0 }, api.ErrRange}, {func(x *Setup) { x.Limit = 257 }, api.ErrRange}, {func(x *Setup) { x.Limit = 256 }, api.OK}, {func(x *Setup) { x.Ahead = 1<<40 + 1 }, api.ErrRange}, {func(x *Setup) { x.Ahead = 1 << 40 }, api.OK},
	} {
		x := setup
		c.wrong(&x)
		h, e := New(x, xof.Real(), d)
		if x.Check() != c.want || e != c.want || (h != nil) != (e == api.OK) {
			t.Errorf("P23.1: case %d: %d, %d", i, x.Check(), e)
		}
	}
	_, e1 := New(Setup{}, nil, nil)
	_, e2 := New(setup, nil, nil)
	_, e3 := New(setup, xof.Real(), nil)
	_, e4 := New(setup, xof.Real(), disk.New(5))
	if e1 != api.ErrField || e2 != api.ErrNil || e3 != api.ErrNil || e4 != api.ErrFull {
		t.Errorf("P23.1: New: %d, %d, %d, %d", e1, e2, e3, e4)
	}
}

func TestTake(t *testing.T) {
	d := disk.New(1 << 20)
	k := open(t, d).Store()
	up := func(n byte, now uint64, size int) msg.Message {
		return msg.Message{Kind: msg.Upload, Entries: []msg.Entry{{Id: api.Id{n}, Time: now, Public: []byte("p"), Share: make([]byte, size)}}}
	}
	for i, c := range []struct {
		now  uint64
		m    msg.Message
		want api.Errno
	}{
		{10, up(1, 15, 3), api.OK}, {10, up(1, 15, 4), api.OK}, {10, up(1, 14, 3), api.ErrReplay}, {10, up(2, 16, 3), api.ErrTime}, {10, up(2, 1<<64-1, 3), api.ErrTime},
		{1<<64 - 1, up(2, 1<<40+1, 3), api.ErrTime}, {1<<64 - 1, up(2, 9, 3), api.OK}, {0, up(3, 5, 16385), api.ErrLong}, {0, up(3, 5, 16384), api.OK},
	} {
		_, before := k.Life()
		r, e := Take(setup, k, c.now, c.m)
		x := c.m.Entries[0]
		if e != api.OK || !msg.Same(r, msg.Message{Kind: msg.Got, Entries: []msg.Entry{{Id: x.Id, Time: x.Time, Code: c.want}}}) {
			t.Errorf("P23.1: Take, case %d: %v, %d", i, r, e)
		}
		if _, after := k.Life(); d.Loose(store.File) != 0 || c.want != api.OK && after != before {
			t.Errorf("P23.1: Take, case %d: what stays", i)
		}
	}
	if x, _ := k.Waits(api.Id{1}); string(x.Public) != "p" || len(x.Share) != 3 {
		t.Errorf("P23.1: what came: %v", x)
	}
	two := up(9, 9, 1)
	two.Entries = append(two.Entries, two.Entries[0])
	_, e1 := Take(setup, nil, 0, msg.Message{})
	_, e2 := Take(setup, k, 0, msg.Message{Kind: msg.Got, Entries: two.Entries[:1]})
	_, e3 := Take(setup, k, 0, two)
	if e1 != api.ErrNil || e2 != api.ErrKind || e3 != api.ErrKind {
		t.Errorf("P23.1: Take: %d, %d, %d", e1, e2, e3)
	}
}

func TestRightReport(t *testing.T) {
	d := disk.New(1 << 20)
	h := open(t, d)
	x := measured(t, 1, 12, right)
	if got := receive(t, h, x.upload()); got.Kind != msg.Got || got.Entries[0].Code != api.OK {
		t.Errorf("P23.2: Upload: %v", got)
	}
	asked, st := x.asked(t)
	said := told(t, h, asked)
	want(t, "P23.2: a right report", said.Code, api.OK)
	m, e := prep.TakeMessage(setup.Task, said.Share)
	if _, e2 := prep.Next(setup.Task, st, m); e != api.OK || e2 != api.OK || len(said.Share) != 16 {
		t.Errorf("P23.2: what is said: %d, %d", e, e2)
	}
	if b, is := h.Store().Window(10); !is || b.Total.Many != 1 || d.Loose(store.File) != 0 {
		t.Error("P23.2: it is added, and stays")
	}
	// Asked again, it says the same, whatever the entry's share is.
	asked.Share, asked.Public = nil, nil
	again := told(t, h, asked)
	if again.Code != api.OK || !bytes.Equal(again.Share, said.Share) {
		t.Errorf("P23.2: asked again: %v", again)
	}
	asked.Time++
	want(t, "P23.2: another time", told(t, h, asked).Code, api.ErrReplay)
	h = open(t, d)
	asked.Time--
	if again := told(t, h, asked); again.Code != api.OK || !bytes.Equal(again.Share, said.Share) {
		t.Errorf("P23.2: in the next life: %v", again)
	}
}

func TestLacking(t *testing.T) {
	h := open(t, disk.New(1<<20))
	x := measured(t, 1, 12, right)
	asked, _ := x.asked(t)
	want(t, "P23.2: it isn't there", told(t, h, asked).Code, api.ErrWait)
	if _, is := h.Store().Seen(x.id); is {
		t.Error("P23.2: nothing is noted")
	}
	asked.Code = api.ErrNone
	want(t, "P23.2: it isn't there", told(t, h, asked).Code, api.ErrNone)
	if s, is := h.Store().Seen(x.id); !is || s.Code != api.ErrNone || s.Time != 12 {
		t.Error("P23.2: it is refused")
	}
	asked.Code = api.OK
	want(t, "P23.2: its code", told(t, h, asked).Code, api.ErrNone)
	if got := receive(t, h, x.upload()); got.Entries[0].Code != api.OK {
		t.Errorf("P23.1: there is one of its id: %v", got)
	}
	for n := byte(2); n <= 6; n++ {
		want(t, "P23.2: refused", told(t, h, msg.Entry{Id: api.Id{n}, Time: uint64(n), Code: api.ErrNone}).Code, api.ErrNone)
	}
	want(t, "P23.2: Refuse's error", told(t, h, msg.Entry{Id: api.Id{7}, Code: api.ErrNone}).Code, api.ErrFull)
}

func TestLooks(t *testing.T) {
	for i, c := range []struct {
		wrong func(x *report, asked *msg.Entry)
		want  api.Errno
	}{
		{func(x *report, asked *msg.Entry) { asked.Public = nil }, api.ErrOther},
		{func(x *report, asked *msg.Entry) { x.public, asked.Public = []byte{1}, []byte{1} }, api.ErrShort},
		{func(x *report, asked *msg.Entry) { x.public = append(x.public, 0); asked.Public = x.public }, api.ErrRest},
		{func(x *report, asked *msg.Entry) { x.helper = nil }, api.ErrShort},
		{func(x *report, asked *msg.Entry) { x.helper = append(x.helper, 1) }, api.ErrRest},
		{func(x *report, asked *msg.Entry) { asked.Share = asked.Share[1:] }, api.ErrShort},
		{func(x *report, asked *msg.Entry) { copy(asked.Share, bytes.Repeat([]byte{255}, 8)) }, api.ErrField},
		{func(x *report, asked *msg.Entry) { asked.Share[0] ^= 1 }, api.ErrProof},
		{func(x *report, asked *msg.Entry) { asked.Share[len(asked.Share)-1] ^= 1 }, api.ErrJoint},
		{func(x *report, asked *msg.Entry) { x.helper[0] ^= 1 }, api.ErrProof},
	} {
		d := disk.New(1 << 20)
		h := open(t, d)
		x := measured(t, 1, 12, right)
		asked, _ := x.asked(t)
		c.wrong(&x, &asked)
		receive(t, h, x.upload())
		said := told(t, h, asked)
		want(t, "P23.2: a look", said.Code, c.want)
		if s, _ := h.Store().Seen(x.id); s.Code != c.want || d.Loose(store.File) != 0 {
			t.Errorf("P23.2: case %d: its code is %d", i, s.Code)
		}
		want(t, "P23.2: its code", told(t, h, asked).Code, c.want)
	}
	h := open(t, disk.New(1<<20))
	x := measured(t, 1, 12, []api.Elem{{1}, {1}, {}})
	receive(t, h, x.upload())
	asked, _ := x.asked(t)
	want(t, "P23.2: a wrong vector", told(t, h, asked).Code, api.ErrProof)
}

func TestCommitsError(t *testing.T) {
	h := open(t, disk.New(1<<20))
	var all []msg.Entry
	for n := byte(1); n <= 4; n++ {
		x := measured(t, n, 10+uint64(n), right)
		receive(t, h, x.upload())
		asked, _ := x.asked(t)
		all = append(all, asked)
	}
	r := receive(t, h, msg.Message{Kind: msg.Init, Job: 1, Entries: append(all, all[0])})
	for i, code := range []api.Errno{0, 0, 0, api.ErrFull, 0} {
		if r.Entries[i].Code != code || r.Entries[i].Id != append(all, all[0])[i].Id {
			t.Errorf("P23.2: entry %d: %d", i, r.Entries[i].Code)
		}
	}
	if s, _ := h.Store().Seen(api.Id{4}); s.Code != api.ErrFull {
		t.Errorf("P23.2: rejected by Commit's error: %d", s.Code)
	}
}

func TestAsk(t *testing.T) {
	d := disk.New(1 << 20)
	h := open(t, d)
	for n := byte(1); n <= 3; n++ {
		x := measured(t, n, 10*uint64(n/3), right)
		receive(t, h, x.upload())
		asked, _ := x.asked(t)
		told(t, h, asked)
	}
	check := total.OfId(api.Id{1}).With(total.OfId(api.Id{2}))
	for i, c := range []struct {
		start uint64
		many  int
		sum   total.Check
		want  api.Errno
	}{{20, 0, total.Check{}, api.ErrNone}, {5, 2, check, api.ErrNone}, {0, 1, total.Check{}, api.ErrCount}, {0, 2, total.Check{}, api.ErrCheck}, {10, 1, total.OfId(api.Id{3}), api.ErrFew}} {
		r := receive(t, h, msg.Message{Kind: msg.Ask, Job: 9, Start: c.start, Many: c.many, Sum: c.sum})
		if !msg.Same(r, msg.Message{Kind: msg.Answer, Job: 9, Start: c.start, Code: c.want}) {
			t.Errorf("P23.2: Ask, case %d: %v", i, r)
		}
	}
	for range 2 {
		r := receive(t, h, msg.Message{Kind: msg.Ask, Job: 9, Many: 2, Sum: check})
		b, _ := h.Store().Window(0)
		if !msg.Same(r, msg.Message{Kind: msg.Answer, Job: 9, Many: 2, Sum: check, Entries: []msg.Entry{{Share: b.Total.Put(setup.Task)}}}) || !b.Closed || d.Loose(store.File) != 0 {
			t.Errorf("P23.2: Ask: %v", r)
		}
	}
	if r := receive(t, h, msg.Message{Kind: msg.Ask, Many: 1}); r.Code != api.ErrCount {
		t.Errorf("P23.2: a closed window of other reports: %v", r)
	}
}

func TestReceiveErrors(t *testing.T) {
	h := open(t, disk.New(1<<20))
	for kind, code := range map[uint8]api.Errno{0: api.ErrKind, 8: api.ErrKind, msg.Reply: api.ErrKind, msg.Collect: api.ErrKind, msg.Answer: api.ErrKind, msg.Got: api.ErrForm, msg.Upload: api.ErrForm} {
		_, e := h.Receive(0, msg.Message{Kind: kind})
		want(t, "P23.2: Receive", e, code)
	}
	_, e := h.Receive(0, msg.Message{Kind: msg.Got, Entries: make([]msg.Entry, 1)})
	want(t, "P23.2: a Got", e, api.ErrKind)
	_, e = h.Receive(0, msg.Message{Kind: msg.Init, Job: 1<<40 + 1})
	want(t, "P23.2: msg's Check", e, api.ErrRange)
	h = nil
	_, e = h.Receive(0, msg.Message{})
	want(t, "R7: nil", e, api.ErrNil)
	if h.Store() != nil {
		t.Error("R7: nil")
	}
	var zero Helper
	zero.Receive(0, msg.Message{Kind: msg.Init, Entries: make([]msg.Entry, 1)})
	zero.Receive(0, msg.Message{Kind: msg.Ask})
	zero.Receive(0, msg.Message{Kind: msg.Upload, Entries: make([]msg.Entry, 1)})
}

func TestExamples(t *testing.T) {
	h := open(t, disk.New(1<<20))
	want(t, "example", told(t, h, msg.Entry{Id: api.Id{1}}).Code, api.ErrWait)
}
