package leader

import (
	"slices"
	"testing"

	"tallyman/api"
	"tallyman/bucket"
	"tallyman/circuit"
	"tallyman/disk"
	"tallyman/field"
	"tallyman/helper"
	"tallyman/msg"
	"tallyman/prep"
	"tallyman/share"
	"tallyman/store"
	"tallyman/total"
	"tallyman/xof"
)

var setup = helper.Setup{
	Task:  share.Task{Circuit: circuit.Circuit{Kind: circuit.Histogram, Field: field.Small, Length: 3, Chunk: 2}, Proofs: 1, Tag: "t"},
	Rules: bucket.Rules{Window: 10, Min: 2, Max: 4},
	Key:   api.Seed{42},
	Limit: 12,
	Ahead: 1 << 40,
}

func open(t *testing.T, d *disk.Disk) *Leader {
	t.Helper()
	l, e := New(setup, xof.Real(), d)
	if e != api.OK {
		t.Fatal(e)
	}
	return l
}

func openHelper(t *testing.T) *helper.Helper {
	t.Helper()
	h, e := helper.New(setup, xof.Real(), disk.New(1<<20))
	if e != api.OK {
		t.Fatal(e)
	}
	return h
}

func want(t *testing.T, what string, got, want api.Errno) {
	t.Helper()
	if got != want {
		t.Errorf("%s: %d, want %d", what, got, want)
	}
}

// uploads are a report's two messages.
func uploads(t *testing.T, n byte, now uint64, in []api.Elem) [2]msg.Message {
	t.Helper()
	r := share.Random{Helper: api.Seed{n, 1}, First: api.Seed{n, 2}, Second: api.Seed{n, 3}, Prove: api.Seed{n, 4}}
	p, l, h, e := setup.Task.ShardVector(xof.Real(), api.Id{n}, in, r)
	if e != api.OK {
		t.Fatal(e)
	}
	var both [2]msg.Message
	for i, own := range [2][]byte{setup.Task.PutLeader(l), setup.Task.PutHelper(h)} {
		both[i] = msg.Message{Kind: msg.Upload, Entries: []msg.Entry{{Id: api.Id{n}, Time: now, Public: setup.Task.PutPublic(p), Share: own}}}
	}
	return both
}

var right = []api.Elem{{}, {1}, {}}

// take hands in a report that one gets; h may be nil.
func take(t *testing.T, l *Leader, h *helper.Helper, n byte, now uint64) {
	t.Helper()
	both := uploads(t, n, now, right)
	got, is, e := l.Receive(now, both[0])
	if e != api.OK || !is || got.Kind != msg.Got || got.Entries[0].Code != api.OK {
		t.Fatalf("P24.2: Upload: %v, %d", got, e)
	}
	if h != nil {
		h.Receive(now, both[1])
	}
}

func tick(t *testing.T, l *Leader, now uint64) []msg.Message {
	t.Helper()
	m, e := l.Tick(now)
	if e != api.OK {
		t.Fatal(e)
	}
	return m
}

func ids(m msg.Message) []byte {
	var l []byte
	for _, x := range m.Entries {
		l = append(l, x.Id[0])
	}
	return l
}

func code(l *Leader, n byte) api.Errno {
	s, _ := l.Store().Seen(api.Id{n})
	return s.Code
}

func TestNew(t *testing.T) {
	_, e1 := New(helper.Setup{}, nil, nil)
	_, e2 := New(setup, nil, nil)
	_, e3 := New(setup, xof.Real(), nil)
	l, e4 := New(setup, xof.Real(), disk.New(0))
	if e1 != api.ErrField || e2 != api.ErrNil || e3 != api.ErrNil || e4 != api.ErrFull || l != nil {
		t.Errorf("P24.1: New: %d, %d, %d, %d", e1, e2, e3, e4)
	}
	l = open(t, disk.New(1<<20))
	if busy, number, many := l.Busy(); busy || number != 0 || many != 0 {
		t.Error("P24.1: no job is on its way")
	}
	if len(tick(t, l, 5)) != 0 {
		t.Error("P24.1: nothing waits")
	}
}

func TestJobs(t *testing.T) {
	d := disk.New(1 << 20)
	l, h := open(t, d), openHelper(t)
	for i, now := range []uint64{13, 11, 11, 15, 12, 19} {
		take(t, l, h, byte(9-i), now)
	}
	m := tick(t, l, 20)
	if len(m) != 1 || m[0].Kind != msg.Init || m[0].Job != 1<<20 || !slices.Equal(ids(m[0]), []byte{7, 8, 5, 9}) {
		t.Fatalf("P24.1: Tick: %v", m)
	}
	if busy, number, many := l.Busy(); !busy || number != 1<<20 || many != 4 {
		t.Errorf("P24.2: Busy: %v, %d, %d", busy, number, many)
	}
	// What is asked is what prep says.
	x, _ := l.Store().Waits(api.Id{7})
	p, _ := setup.Task.TakePublic(x.Public)
	own, _ := setup.Task.TakeLeader(x.Share)
	_, told, _ := prep.Leader(setup.Task, xof.Real(), setup.Key, x.Id, p, own)
	first := m[0].Entries[0]
	if !msg.Same(msg.Message{Entries: []msg.Entry{first}}, msg.Message{Entries: []msg.Entry{{Id: x.Id, Time: 11, Public: x.Public, Share: prep.PutShare(setup.Task, told)}}}) {
		t.Errorf("P24.1: an entry: %v", first)
	}
	var due []uint64
	for now := uint64(20); now < 75; now++ {
		for _, again := range tick(t, l, now) {
			due = append(due, now)
			if !msg.Same(again, m[0]) {
				t.Error("P24.1: the same is asked again")
			}
			again.Entries[0].Share[0]++
		}
	}
	if !slices.Equal(due, []uint64{21, 23, 27, 35, 51, 67}) {
		t.Errorf("P24.1: due at %v", due)
	}
	reply, e := h.Receive(80, m[0])
	want(t, "the helper", e, api.OK)
	for range 2 {
		_, is, e := l.Receive(80, msg.Message{Kind: msg.Reply, Job: 1<<20 + 1})
		if is || e != api.ErrNone {
			t.Errorf("P24.2: another job's Reply: %d", e)
		}
	}
	answer, is, e := l.Receive(80, reply)
	if e != api.OK || is || !msg.Same(answer, msg.Message{}) {
		t.Errorf("P24.2: a Reply: %d", e)
	}
	for _, n := range []byte{7, 8, 5, 9} {
		want(t, "P24.2: it is added", code(l, n), api.OK)
	}
	lb, _ := l.Store().Window(10)
	hb, _ := h.Store().Window(10)
	if lb.Total.Many != 4 || lb.Total.Check != hb.Total.Check || d.Loose(store.File) != 0 {
		t.Error("P24.2: both added the same")
	}
	_, _, e = l.Receive(80, reply)
	want(t, "P24.2: the job is over", e, api.ErrNone)
	if m := tick(t, l, 80); len(m) != 1 || m[0].Job != 1<<20+1 || !slices.Equal(ids(m[0]), []byte{6, 4}) {
		t.Errorf("P24.1: the next job: %v", m)
	}
	l = open(t, d)
	if m := tick(t, l, 0); len(m) != 1 || m[0].Job != 2<<20 {
		t.Errorf("P24.1: the next life's job: %v", m)
	}
}

func TestWhatIsNotAskedAbout(t *testing.T) {
	l := open(t, disk.New(1<<20))
	both := uploads(t, 1, 10, right)[0]
	for i, c := range []struct {
		wrong func(x *msg.Entry)
		want  api.Errno
	}{
		{func(x *msg.Entry) { x.Public = nil }, api.ErrShort}, {func(x *msg.Entry) { x.Share = append(x.Share, 1) }, api.ErrRest}, {func(x *msg.Entry) { x.Public, x.Share = append(x.Public, 1), nil }, api.ErrRest},
		{func(x *msg.Entry) { x.Share[7] = 255; copy(x.Share, []byte{255, 255, 255, 255, 255, 255, 255}) }, api.ErrField},
	} {
		m := both.Clone()
		m.Entries[0].Id = api.Id{byte(i + 2)}
		c.wrong(&m.Entries[0])
		if _, _, e := l.Receive(10, m); e != api.OK {
			t.Fatal(e)
		}
		if i == 3 {
			if m := tick(t, l, 20); len(m) != 0 {
				t.Errorf("P24.1: %v", m)
			}
		}
		defer func() { want(t, "P24.1: rejected by", code(l, byte(i+2)), c.want) }()
	}
	if busy, _, _ := l.Busy(); busy {
		t.Error("P24.1: without entries there is no job")
	}
	take(t, l, nil, 1, 10)
	if m := tick(t, l, 20); len(m) != 1 || m[0].Job != 1<<20 {
		t.Errorf("P24.1: no number was used up: %v", m)
	}
}

func TestClosedWindow(t *testing.T) {
	l, h := open(t, disk.New(1<<20)), openHelper(t)
	take(t, l, h, 1, 10)
	take(t, l, h, 2, 10)
	// These come, but are asked about when their window is closed.
	m := tick(t, l, 0)
	take(t, l, h, 3, 11)
	bad := uploads(t, 4, 12, right)[0]
	bad.Entries[0].Public = nil
	l.Receive(0, bad)
	reply, _ := h.Receive(0, m[0])
	l.Receive(0, reply)
	if _, e := l.Store().Close(10); e != api.OK {
		t.Fatal(e)
	}
	if m := tick(t, l, 1); len(m) != 0 {
		t.Errorf("P24.1: %v", m)
	}
	want(t, "P24.1: rejected by", code(l, 3), api.ErrClosed)
	want(t, "R2: rejected by", code(l, 4), api.ErrShort)
}

func TestReplies(t *testing.T) {
	d := disk.New(1 << 20)
	l, h := open(t, d), openHelper(t)
	for n := byte(1); n <= 4; n++ {
		take(t, l, h, n, 10)
	}
	m := tick(t, l, 0)[0]
	reply, _ := h.Receive(0, m)
	e := reply.Entries
	e[1].Code = api.ErrOther
	e[2].Share = e[2].Share[1:]
	e[3].Share = slices.Clone(e[3].Share)
	e[3].Share[0] ^= 1
	// The first entry of an id counts alone, one about another report not at all.
	more := []msg.Entry{{Id: api.Id{99}}, e[0], {Id: api.Id{1}, Code: api.ErrProof}, e[1], e[2], e[3]}
	_, _, err := l.Receive(0, msg.Message{Kind: msg.Reply, Job: m.Job, Entries: more})
	want(t, "P24.2: Reply", err, api.OK)
	for n, c := range []api.Errno{api.OK, api.ErrOther, api.ErrShort, api.ErrJoint} {
		want(t, "P24.2: its code", code(l, byte(n+1)), c)
	}
	if d.Loose(store.File) != 0 || len(l.Store().All()) != 4 {
		t.Error("P24.2: it stays")
	}
	if said, is := l.Store().Said(api.Id{1}); !is || len(said) != 0 {
		t.Error("P24.2: the leader has nothing to say of it")
	}
}

func TestWaitingReplies(t *testing.T) {
	l := open(t, disk.New(1<<20))
	take(t, l, nil, 1, 10)
	take(t, l, nil, 2, 10)
	m := tick(t, l, 0)[0]
	l.Receive(0, msg.Message{Kind: msg.Reply, Job: m.Job, Entries: []msg.Entry{{Id: api.Id{1}, Code: api.ErrWait}, {Id: api.Id{1}, Code: api.ErrProof}}})
	if len(l.Store().Waiting(0, 99)) != 2 {
		t.Error("P24.2: what is told to wait, or isn't told of, waits")
	}
	if m := tick(t, l, 0); len(m) != 1 || m[0].Job != 1<<20+1 || !slices.Equal(ids(m[0]), []byte{1, 2}) {
		t.Errorf("P24.1: a new job asks again: %v", m)
	}
}

// What the helper said is right may not be added any more: it is rejected.
func TestCommitsError(t *testing.T) {
	l, h := open(t, disk.New(1<<20)), openHelper(t)
	for n := byte(1); n <= 5; n++ {
		take(t, l, nil, n, 10)
	}
	for range 2 {
		m := tick(t, l, 0)[0]
		for _, n := range ids(m) {
			if n == 5 {
				h = openHelper(t)
			}
			h.Receive(0, uploads(t, n, 10, right)[1])
		}
		reply, _ := h.Receive(0, m)
		l.Receive(0, reply)
	}
	want(t, "P24.2: Commit's error", code(l, 5), api.ErrFull)
}

func TestCollect(t *testing.T) {
	d := disk.New(1 << 20)
	l, h := open(t, d), openHelper(t)
	ask := func(start uint64) msg.Message {
		t.Helper()
		m, is, e := l.Receive(0, msg.Message{Kind: msg.Collect, Job: 5, Start: start})
		if e != api.OK || !is || m.Kind != msg.Answer || m.Job != 5 || m.Start != start || m.Check() != api.OK {
			t.Fatalf("P24.2: Collect: %v, %d", m, e)
		}
		return m
	}
	want(t, "P24.2: no window", ask(10).Code, api.ErrNone)
	want(t, "P24.2: no beginning", ask(11).Code, api.ErrTime)
	take(t, l, h, 1, 19)
	want(t, "P24.2: a report waits", ask(10).Code, api.ErrWait)
	want(t, "P24.2: a report waits, but there is no such window", ask(11).Code, api.ErrTime)
	want(t, "P24.2: another window", ask(20).Code, api.ErrNone)
	settle := func() {
		reply, _ := h.Receive(0, tick(t, l, 100)[0])
		l.Receive(0, reply)
	}
	settle()
	want(t, "P24.2: few reports", ask(10).Code, api.ErrFew)
	take(t, l, h, 2, 10)
	settle()
	b, _ := l.Store().Window(10)
	wanted := msg.Message{Kind: msg.Answer, Job: 5, Start: 10, Many: 2, Sum: total.OfId(api.Id{1}).With(total.OfId(api.Id{2})), Entries: []msg.Entry{{Share: b.Total.Put(setup.Task)}}}
	if m := ask(10); !msg.Same(m, wanted) || d.Loose(store.File) != 0 {
		t.Errorf("P24.2: Collect: %v", m)
	}
	if m := ask(10); !msg.Same(m, wanted) {
		t.Errorf("P24.2: of a closed window: %v", m)
	}
}

// A report that came ahead of its window's closing, and waits yet, doesn't keep a closed window back.
func TestCollectOfClosed(t *testing.T) {
	l, h := open(t, disk.New(1<<20)), openHelper(t)
	for n := byte(1); n <= 3; n++ {
		take(t, l, h, n, 10)
	}
	reply, _ := h.Receive(0, tick(t, l, 0)[0])
	reply.Entries[2].Code = api.ErrWait
	l.Receive(0, reply)
	m, _, _ := l.Receive(0, msg.Message{Kind: msg.Collect, Start: 10})
	want(t, "P24.2: a report waits", m.Code, api.ErrWait)
	l.Store().Close(10)
	m, _, _ = l.Receive(0, msg.Message{Kind: msg.Collect, Start: 10})
	want(t, "P24.2: it is closed", m.Code, api.OK)
}

func TestReceiveErrors(t *testing.T) {
	l := open(t, disk.New(1<<20))
	for kind, code := range map[uint8]api.Errno{0: api.ErrKind, msg.Init: api.ErrKind, msg.Ask: api.ErrKind, msg.Answer: api.ErrKind, msg.Upload: api.ErrForm, msg.Reply: api.ErrNone} {
		_, is, e := l.Receive(0, msg.Message{Kind: kind})
		want(t, "P24.2: Receive", e, code)
		if is {
			t.Error("R3: an answer beside an error")
		}
	}
	_, _, e := l.Receive(0, msg.Message{Kind: msg.Reply, Code: 32})
	want(t, "P24.2: msg's Check", e, api.ErrRange)
	l = nil
	_, _, e1 := l.Receive(0, msg.Message{})
	_, e2 := l.Tick(0)
	if busy, _, _ := l.Busy(); e1 != api.ErrNil || e2 != api.ErrNil || busy || l.Store() != nil {
		t.Error("R7: nil")
	}
	var zero Leader
	zero.Tick(0)
	zero.Receive(0, msg.Message{Kind: msg.Collect})
	zero.Receive(0, msg.Message{Kind: msg.Reply})
}

func TestExamples(t *testing.T) {
	l, h := open(t, disk.New(1<<20)), openHelper(t)
	take(t, l, nil, 1, 10)
	for n := 1; n <= 7; n++ {
		m := tick(t, l, uint64(100*n))[0]
		if (m.Entries[0].Code == api.ErrNone) != (n == 7) {
			t.Errorf("example: job %d asks with code %d", n, m.Entries[0].Code)
		}
		reply, _ := h.Receive(0, m)
		l.Receive(0, reply)
		if (code(l, 1) == api.ErrNone) != (n == 7) {
			t.Errorf("example: behind job %d its code is %d", n, code(l, 1))
		}
	}
	if s, is := h.Store().Seen(api.Id{1}); !is || s.Code != api.ErrNone {
		t.Error("example: the helper refused it")
	}
}
