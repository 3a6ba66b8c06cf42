package world

import (
	"slices"
	"testing"

	"tallyman/api"
	"tallyman/bucket"
	"tallyman/circuit"
	"tallyman/field"
	"tallyman/helper"
	"tallyman/msg"
	"tallyman/net"
	"tallyman/share"
	"tallyman/store"
	"tallyman/xof"
)

var setup = helper.Setup{
	Task:  share.Task{Circuit: circuit.Circuit{Kind: circuit.Sum, Field: field.Small, Bits: 4}, Proofs: 1, Tag: "w"},
	Rules: bucket.Rules{Window: 10, Min: 2, Max: 200},
	Key:   api.Seed{42},
	Limit: 200,
	Ahead: 100,
}

func open(t *testing.T) *World {
	t.Helper()
	w, e := New(setup, xof.Real(), 1<<20)
	if e != api.OK {
		t.Fatal(e)
	}
	return w
}

func do(t *testing.T, w *World, s Step, want api.Errno) {
	t.Helper()
	if e := w.Do(s); e != want {
		t.Errorf("P27.2: step %d of %d: %d, want %d", s.Kind, s.A, e, want)
	}
}

func seeds(n byte) share.Random {
	return share.Random{Helper: api.Seed{n, 1}, First: api.Seed{n, 2}, Second: api.Seed{n, 3}, Prove: api.Seed{n, 4}}
}

func measure(n byte, m uint64) Step {
	return Step{Kind: SMeasure, Id: api.Id{n}, Measure: circuit.Measure{m}, Random: seeds(n)}
}

// letter makes sure of the kind of the letter at a place, and of whom it is from and to.
func letter(t *testing.T, w *World, at int, kind uint8, from, to int) {
	t.Helper()
	l, is := w.Net().Peek(at)
	m, e := msg.Decode(l.Bytes)
	if !is || e != api.OK || m.Kind != kind || l.From != from || l.To != to {
		t.Errorf("P27.2: letter %d is of kind %d, from %d to %d", at, m.Kind, l.From, l.To)
	}
}

func TestNew(t *testing.T) {
	_, e1 := New(helper.Setup{}, nil, 0)
	_, e2 := New(setup, nil, 0)
	w, e3 := New(setup, xof.Real(), 63)
	if e1 != api.ErrField || e2 != api.ErrNil || e3 != api.ErrFull || w != nil {
		t.Errorf("P27.1: New: %d, %d, %d", e1, e2, e3)
	}
	w = open(t)
	for _, who := range []int{-1, 0, 1, 2, 1<<63 - 1} {
		is := who == 0 || who == 1
		if w.Runs(who) != is || (w.Store(who) != nil) != is || (w.Disk(who) != nil) != is || w.Halted(who) != api.OK {
			t.Errorf("P27.1: who %d", who)
		}
	}
	now, clients, bad := w.Counts()
	if _, _, is := w.Client(0); is || now != 0 || clients != 0 || bad != 0 || len(w.Results()) != 0 || w.Net().Len() != 0 || !w.Settled() {
		t.Error("P27.1: a new world")
	}
	if w.Disk(0) == w.Disk(1) || !slices.Equal(w.Disk(0).Names(), []string{store.File}) {
		t.Error("P27.1: each has a disk")
	}
}

func TestReportsWay(t *testing.T) {
	w := open(t)
	do(t, w, measure(1, 5), api.OK)
	if _, _, is := w.Client(0); !is || w.Settled() || w.Net().Len() != 0 {
		t.Error("P27.2: a client more")
	}
	do(t, w, Step{Kind: STick}, api.OK)
	if now, clients, _ := w.Counts(); now != 1 || clients != 1 || w.Net().Len() != 2 {
		t.Error("P27.2: it says something")
	}
	letter(t, w, 0, msg.Upload, 3, net.Leader)
	letter(t, w, 1, msg.Upload, 3, net.Helper)
	do(t, w, Step{Kind: SDeliver}, api.OK)
	letter(t, w, 1, msg.Got, net.Leader, 3)
	if len(w.Store(0).Waiting(0, 9)) != 1 {
		t.Error("P27.2: the leader has it")
	}
	do(t, w, Step{Kind: SDeliver}, api.OK)
	do(t, w, Step{Kind: SDeliver, A: 1}, api.OK)
	do(t, w, Step{Kind: SDeliver}, api.OK)
	if done, code, is := w.Client(0); !is || !done || code != [2]api.Errno{} || w.Settled() {
		t.Error("P27.2: it was answered")
	}
	do(t, w, Step{Kind: STick}, api.OK)
	letter(t, w, 0, msg.Init, net.Leader, net.Helper)
	do(t, w, Step{Kind: SDeliver}, api.OK)
	letter(t, w, 0, msg.Reply, net.Helper, net.Leader)
	do(t, w, Step{Kind: SDouble}, api.OK)
	do(t, w, Step{Kind: SDeliver}, api.OK)
	do(t, w, Step{Kind: SDeliver}, api.ErrNone)
	if w.Net().Len() != 0 || !w.Settled() {
		t.Error("P27.3: it is settled")
	}
	do(t, w, Step{Kind: SCollect, N: 0}, api.OK)
	if w.Settled() {
		t.Error("P27.3: a window is wanted")
	}
	do(t, w, Step{Kind: SCollect, N: 0}, api.ErrExists)
	do(t, w, Step{Kind: STick}, api.OK)
	letter(t, w, 0, msg.Collect, net.Collector, net.Leader)
	do(t, w, Step{Kind: SDeliver}, api.OK)
	letter(t, w, 0, msg.Answer, net.Leader, net.Collector)
	do(t, w, Step{Kind: SDeliver}, api.OK)
	if r := w.Results(); len(r) != 1 || r[0].Code != api.ErrFew {
		t.Errorf("P27.1: Results: %v", r)
	}
}

func TestErrors(t *testing.T) {
	w := open(t)
	for _, kind := range []int{SNothing, -1, 11, 1<<63 - 1, -1 << 63} {
		do(t, w, Step{Kind: kind}, api.ErrKind)
	}
	for _, at := range []int{-1, 0, 5, 1<<63 - 1} {
		do(t, w, Step{Kind: SDeliver, A: at}, api.ErrNone)
		do(t, w, Step{Kind: SDrop, A: at}, api.ErrNone)
		do(t, w, Step{Kind: SDouble, A: at}, api.ErrNone)
		do(t, w, Step{Kind: SQuiet, A: at}, api.ErrNone)
	}
	for _, who := range []int{-1, 2, 1<<63 - 1} {
		do(t, w, Step{Kind: SCrash, A: who}, api.ErrDown)
		do(t, w, Step{Kind: SStart, A: who}, api.ErrRange)
	}
	do(t, w, Step{Kind: SStart, A: 1}, api.ErrExists)
	do(t, w, measure(1, 16), api.ErrRange)
	do(t, w, Step{Kind: SMeasure}, api.ErrSize)
	do(t, w, Step{Kind: SForge, N: 1<<40 + 1}, api.ErrRange)
	do(t, w, Step{Kind: SForge, Bytes: [3][]byte{nil, nil, make([]byte, 65537)}}, api.ErrLong)
	do(t, w, Step{Kind: SCollect, N: 1<<40 + 1}, api.ErrTime)
	for n := range 64 {
		do(t, w, Step{Kind: SForge, Id: api.Id{byte(n)}}, api.OK)
	}
	do(t, w, Step{Kind: SForge, N: 1<<40 + 1}, api.ErrRange)
	do(t, w, Step{Kind: SForge}, api.ErrMany)
	do(t, w, measure(1, 16), api.ErrRange)
	do(t, w, measure(1, 1), api.ErrMany)
	do(t, w, Step{Kind: STick}, api.OK)
	if w.Net().Len() != 128 {
		t.Errorf("P27.2: %d letters", w.Net().Len())
	}
	letter(t, w, 127, msg.Upload, 66, net.Helper)
}

func TestForgedReport(t *testing.T) {
	w := open(t)
	do(t, w, Step{Kind: SForge, Id: api.Id{9}, N: 77, Bytes: [3][]byte{{1}, {2}, {3}}}, api.OK)
	do(t, w, Step{Kind: STick}, api.OK)
	for i, own := range []byte{2, 3} {
		l, _ := w.Net().Peek(i)
		m, _ := msg.Decode(l.Bytes)
		if !msg.Same(m, msg.Message{Kind: msg.Upload, Entries: []msg.Entry{{Id: api.Id{9}, Time: 77, Public: []byte{1}, Share: []byte{own}}}}) {
			t.Errorf("P27.2: a forged letter: %v", m)
		}
	}
	if w.Calm(10) < 0 {
		t.Error("P27.3: not settled")
	}
	if s, _ := w.Store(0).Seen(api.Id{9}); s.Code != api.ErrShort || s.Time != 77 {
		t.Errorf("P4: a forged report: %v", s)
	}
}

func TestQuiet(t *testing.T) {
	w := open(t)
	w.Do(measure(1, 1))
	w.Do(measure(2, 1))
	w.Do(Step{Kind: STick})
	w.Do(Step{Kind: SDeliver})
	do(t, w, Step{Kind: SQuiet, A: 0}, api.OK)
	do(t, w, Step{Kind: SQuiet, A: 0}, api.ErrNone)
	if done, code, is := w.Client(0); done || is || code != [2]api.Errno{} {
		t.Error("P27.1: a quiet client")
	}
	// What is for it comes, to nobody.
	do(t, w, Step{Kind: SDeliver, A: 3}, api.ErrNil)
	for w.Net().Len() > 0 {
		w.Do(Step{Kind: SDrop})
	}
	w.Do(Step{Kind: STick})
	w.Do(Step{Kind: STick})
	letter(t, w, 0, msg.Upload, 4, net.Leader)
	if _, clients, _ := w.Counts(); clients != 2 {
		t.Error("P27.1: a quiet client is one")
	}
	w.Net().Send(net.Letter{From: 0, To: 5, Bytes: encoded(t, msg.Message{Kind: msg.Got, Entries: make([]msg.Entry, 1)})})
	do(t, w, Step{Kind: SDeliver, A: w.Net().Len() - 1}, api.ErrNone)
	if w.Calm(100) < 0 {
		t.Error("P27.3: a quiet client isn't waited for")
	}
}

func encoded(t *testing.T, m msg.Message) []byte {
	t.Helper()
	b, e := m.Encode()
	if e != api.OK {
		t.Fatal(e)
	}
	return b
}

func TestWhoMaySay(t *testing.T) {
	may := map[[3]int]bool{}
	for c := 3; c < 5; c++ {
		may[[3]int{msg.Upload, c, 0}], may[[3]int{msg.Upload, c, 1}] = true, true
	}
	may[[3]int{msg.Init, 0, 1}], may[[3]int{msg.Reply, 1, 0}], may[[3]int{msg.Collect, 2, 0}], may[[3]int{msg.Ask, 2, 1}] = true, true, true, true
	for kind := 1; kind <= 7; kind++ {
		for from := range 5 {
			for to := range 2 {
				w := open(t)
				l := net.Letter{From: from, To: to, Bytes: encoded(t, msg.Message{Kind: uint8(kind), Entries: make([]msg.Entry, 1)})}
				if w.Net().Send(l) != api.OK {
					continue
				}
				e := w.Do(Step{Kind: SDeliver})
				_, _, bad := w.Counts()
				if (e == api.ErrKind) == may[[3]int{kind, from, to}] || (bad == 1) != (e == api.ErrKind) {
					t.Errorf("P27.2: kind %d from %d to %d: %d", kind, from, to, e)
				}
				w = open(t)
				w.Do(Step{Kind: SCrash, A: to})
				w.Net().Send(l)
				do(t, w, Step{Kind: SDeliver}, api.ErrDown)
				w.Net().Send(net.Letter{From: from, To: to, Bytes: []byte{1}})
				do(t, w, Step{Kind: SDeliver}, api.ErrShort)
				if _, _, bad := w.Counts(); bad != 1 {
					t.Error("P27.2: what is no message is bad, whoever runs")
				}
			}
		}
	}
	w := open(t)
	w.Net().Send(net.Letter{From: 0, To: 2, Bytes: encoded(t, msg.Message{Kind: msg.Ask})})
	do(t, w, Step{Kind: SDeliver}, api.ErrKind)
	w.Net().Send(net.Letter{From: 1, To: 2, Bytes: encoded(t, msg.Message{Kind: msg.Answer})})
	do(t, w, Step{Kind: SDeliver}, api.ErrNone)
	if _, _, bad := w.Counts(); bad != 0 {
		t.Error("P27.2: the collector's errors aren't bad letters")
	}
}

func TestCrashAndStart(t *testing.T) {
	w := open(t)
	w.Do(measure(1, 3))
	w.Do(Step{Kind: STick})
	w.Do(Step{Kind: SDeliver})
	do(t, w, Step{Kind: SCrash, A: 0, N: 1<<64 - 1}, api.OK)
	do(t, w, Step{Kind: SCrash, A: 0}, api.ErrDown)
	if w.Runs(0) || w.Store(0) != nil || w.Disk(0) == nil || !w.Runs(1) || w.Settled() || w.Calm(5) != -1 {
		t.Error("P27.2: it doesn't run")
	}
	do(t, w, Step{Kind: SStart, A: 0}, api.OK)
	if len(w.Store(0).Waiting(0, 99)) != 1 || w.Halted(0) != api.OK {
		t.Error("P5: it begins anew")
	}
	if life, _ := w.Store(0).Life(); life != 2 {
		t.Errorf("P5: life %d", life)
	}
	do(t, w, Step{Kind: SCrash, A: 0}, api.OK)
	w.Disk(0).Turn(store.File, 5)
	do(t, w, Step{Kind: SStart, A: 0}, api.ErrHalt)
	if w.Halted(0) != api.ErrHalt || w.Runs(0) || w.Halted(1) != api.OK {
		t.Error("P27.1: Halted")
	}
	w.Disk(0).Turn(store.File, 5)
	do(t, w, Step{Kind: SStart, A: 0}, api.OK)
	if w.Halted(0) != api.OK || w.Calm(4096) < 0 {
		t.Error("P27.1: it runs again")
	}
}

// What isn't synced is lost, but for as many bytes as are kept.
func TestCrashKeeps(t *testing.T) {
	for keep, cells := range map[uint64]int{0: 2, 63: 2, 64: 3, 1 << 40: 3} {
		w := open(t)
		w.Store(1).Accept(store.Report{Id: api.Id{1}})
		do(t, w, Step{Kind: SCrash, A: 1, N: keep}, api.OK)
		do(t, w, Step{Kind: SStart, A: 1}, api.OK)
		if _, got := w.Store(1).Life(); got != cells {
			t.Errorf("P27.2: %d bytes kept: %d cells", keep, got)
		}
	}
}

func TestTimeEnds(t *testing.T) {
	w := open(t)
	w.now = 1<<40 - 1
	do(t, w, Step{Kind: STick}, api.OK)
	do(t, w, Step{Kind: STick}, api.ErrTime)
	if now, _, _ := w.Counts(); now != 1<<40 {
		t.Errorf("P27.2: the time is %d", now)
	}
	do(t, w, measure(1, 1), api.OK)
	if w.Calm(3) != -1 {
		t.Error("P27.3: nothing goes on")
	}
}

func TestCalm(t *testing.T) {
	w := open(t)
	if w.Calm(0) != 0 || w.Calm(-5) != 0 || w.Calm(9) != 0 {
		t.Error("P27.3: it was settled")
	}
	w.Do(measure(1, 3))
	if w.Calm(0) != -1 || w.Calm(-1) != -1 {
		t.Error("P27.3: no ticks")
	}
	if n := w.Calm(1 << 62); n != 2 {
		t.Errorf("P27.3: settled after %d", n)
	}
	if now, _, _ := w.Counts(); now != 2 {
		t.Errorf("P27.3: the time is %d", now)
	}
	w.Do(Step{Kind: SCrash, A: 1})
	if w.Calm(1<<62) != -1 {
		t.Error("P27.3: the helper doesn't run")
	}
	if now, _, _ := w.Counts(); now != 4098 {
		t.Errorf("P27.3: 4096 at most: the time is %d", now)
	}
}

func TestNil(t *testing.T) {
	var w *World
	done, code, is := w.Client(0)
	now, clients, bad := w.Counts()
	if w.Do(Step{Kind: STick}) != api.ErrNil || w.Calm(1) != -1 || w.Runs(0) || w.Settled() || w.Store(0) != nil || w.Disk(0) != nil || w.Results() != nil || done || is || code != [2]api.Errno{} || w.Net() != nil || now != 0 || clients != 0 || bad != 0 || w.Halted(0) != api.OK {
		t.Error("R7: nil")
	}
	var zero World
	for kind := range 12 {
		zero.Do(Step{Kind: kind})
	}
	zero.Calm(2)
}

func TestExamples(t *testing.T) {
	x := setup
	x.Task.Circuit = circuit.Circuit{Kind: circuit.Count, Field: field.Small}
	w, e := New(x, xof.Real(), 1<<20)
	if e != api.OK {
		t.Fatal(e)
	}
	for n, m := range []uint64{1, 0, 1} {
		do(t, w, measure(byte(n+1), m), api.OK)
	}
	a := w.Calm(100)
	do(t, w, Step{Kind: SCollect, N: 0}, api.OK)
	b := w.Calm(100)
	if r := w.Results(); a < 0 || b < 0 || len(r) != 1 || r[0].Start != 0 || r[0].Many != 3 || r[0].Code != api.OK || !slices.Equal(r[0].Sums, []uint64{2}) {
		t.Errorf("example: %v", r)
	}
}
