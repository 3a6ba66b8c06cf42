package store

import (
	"bytes"
	"slices"
	"testing"

	"tallyman/api"
	"tallyman/bucket"
	"tallyman/circuit"
	"tallyman/disk"
	"tallyman/field"
	"tallyman/journal"
	"tallyman/pack"
	"tallyman/replay"
	"tallyman/share"
	"tallyman/total"
)

var (
	task  = share.Task{Circuit: circuit.Circuit{Kind: circuit.Sum, Field: field.Small, Bits: 8}, Proofs: 1}
	rules = bucket.Rules{Window: 10, Min: 2, Max: 3}
)

func open(t *testing.T, d *disk.Disk) *Store {
	t.Helper()
	s, e := Open(d, task, rules, 8)
	if e != api.OK {
		t.Fatal(e)
	}
	return s
}

func want(t *testing.T, what string, got, want api.Errno) {
	t.Helper()
	if got != want {
		t.Errorf("%s: %d, want %d", what, got, want)
	}
}

func report(n byte, now uint64) Report {
	return Report{api.Id{n}, now, []byte{n, 1}, []byte{n, 2}}
}

func out(n uint64) []api.Elem { return []api.Elem{{n}} }

// state is all that a store tells but its life and its cells.
func state(s *Store) any {
	type told struct {
		seen    []replay.Seen
		buckets []bucket.Bucket
		said    [][]byte
		waits   []Report
	}
	x := told{seen: s.All(), buckets: s.Book()}
	for _, r := range x.seen {
		said, _ := s.Said(r.Id)
		w, _ := s.Waits(r.Id)
		x.said, x.waits = append(x.said, said), append(x.waits, w)
	}
	return x
}

func sameState(a, b *Store) bool {
	if len(a.All()) != len(b.All()) || len(a.Book()) != len(b.Book()) {
		return false
	}
	for i, x := range a.All() {
		sa, ia := a.Said(x.Id)
		sb, ib := b.Said(x.Id)
		wa, ja := a.Waits(x.Id)
		wb, jb := b.Waits(x.Id)
		if b.All()[i] != x || ia != ib || ja != jb || !bytes.Equal(sa, sb) || wa.Time != wb.Time || !bytes.Equal(wa.Public, wb.Public) || !bytes.Equal(wa.Share, wb.Share) {
			return false
		}
	}
	return slices.EqualFunc(a.Book(), b.Book(), func(x, y bucket.Bucket) bool {
		return x.Start == y.Start && x.Closed == y.Closed && total.Same(x.Total, y.Total)
	})
}

func TestOpen(t *testing.T) {
	d := disk.New(1 << 20)
	s := open(t, d)
	if life, cells := s.Life(); life != 1 || cells != 1 || d.Loose(File) != 0 || File != "journal" {
		t.Errorf("P21.1: life %d, %d cells", life, cells)
	}
	if s.Rules() != rules || len(s.All()) != 0 || len(s.Book()) != 0 {
		t.Error("P21.2: a new store")
	}
	for n := range uint64(3) {
		if life, cells := open(t, d).Life(); life != n+2 || cells != int(n)+2 {
			t.Errorf("P21.1: life %d, %d cells", life, cells)
		}
	}
	_, e := Open(nil, share.Task{}, rules, 8)
	want(t, "P21.1: a wrong task", e, api.ErrField)
	_, e = Open(nil, task, bucket.Rules{}, 8)
	want(t, "P21.1: wrong rules", e, api.ErrRange)
	_, e = Open(nil, task, rules, 8)
	want(t, "P21.1: no disk", e, api.ErrNil)
	s, e = Open(disk.New(63), task, rules, 8)
	want(t, "P21.1: a full disk", e, api.ErrFull)
	if s != nil {
		t.Error("R3: a store beside an error")
	}
	d.Turn(File, 70*8)
	_, e = Open(d, task, rules, 8)
	want(t, "P21.1: not right in its midst", e, api.ErrHalt)
}

func TestAccept(t *testing.T) {
	s := open(t, disk.New(1<<20))
	x := report(1, 12)
	want(t, "P21.1: Accept", s.Accept(x), api.OK)
	x.Public[0], x.Share[0] = 99, 99
	if y, is := s.Waits(api.Id{1}); !is || y.Time != 12 || !bytes.Equal(y.Public, []byte{1, 1}) || !bytes.Equal(y.Share, []byte{1, 2}) {
		t.Errorf("P21.2: Waits: %v", y)
	} else {
		y.Public[0] = 77
	}
	if y, _ := s.Waits(api.Id{1}); y.Public[0] != 1 {
		t.Error("R6: Waits shares memory")
	}
	if y, is := s.Seen(api.Id{1}); !is || y != (replay.Seen{Id: api.Id{1}, Time: 12, Code: api.ErrWait}) {
		t.Errorf("P21.2: Seen: %v", y)
	}
	if _, is := s.Said(api.Id{1}); is {
		t.Error("P21.2: Said of what waits")
	}
	long := make([]byte, 16385)
	want(t, "P21.1: ErrReplay", s.Accept(Report{Id: api.Id{1}, Public: long, Time: 1 << 50}), api.ErrReplay)
	want(t, "P21.1: ErrLong", s.Accept(Report{Id: api.Id{2}, Public: long, Time: 1 << 50}), api.ErrLong)
	want(t, "P21.1: ErrLong", s.Accept(Report{Id: api.Id{2}, Share: long}), api.ErrLong)
	want(t, "P21.1: Fits' error", s.Accept(report(2, 1<<40+1)), api.ErrTime)
	want(t, "P21.1: as long as may be", s.Accept(Report{Id: api.Id{2}, Public: long[1:], Share: long[1:]}), api.OK)
	for n := byte(3); n <= 8; n++ {
		want(t, "P21.1: Accept", s.Accept(report(n, uint64(n))), api.OK)
	}
	want(t, "P21.1: ErrFull", s.Accept(report(9, 1<<40+1)), api.ErrFull)
	want(t, "P21.1: ErrLong", s.Accept(Report{Id: api.Id{9}, Share: long}), api.ErrLong)
	if len(s.All()) != 8 {
		t.Errorf("R4: %d reports", len(s.All()))
	}
}

func TestCommit(t *testing.T) {
	s := open(t, disk.New(1<<20))
	for n := byte(1); n <= 5; n++ {
		s.Accept(report(n, 10+uint64(n)))
	}
	want(t, "P21.1: ErrNone", s.Commit(api.Id{9}, nil, nil), api.ErrNone)
	want(t, "P21.1: ErrSize", s.Commit(api.Id{1}, nil, nil), api.ErrSize)
	want(t, "P21.1: ErrSize", s.Commit(api.Id{1}, make([]api.Elem, 2), nil), api.ErrSize)
	want(t, "P21.1: ErrSize", s.Commit(api.Id{1}, []api.Elem{{1, 1}}, make([]byte, 16385)), api.ErrSize)
	want(t, "P21.1: ErrField", s.Commit(api.Id{1}, []api.Elem{{1, 1}}, nil), api.ErrField)
	said := []byte("ok")
	want(t, "P21.1: Commit", s.Commit(api.Id{1}, out(5), said), api.OK)
	said[0] = 'x'
	if b, is := s.Said(api.Id{1}); !is || string(b) != "ok" {
		t.Errorf("P21.2: Said: %q", b)
	} else {
		b[0] = 'y'
	}
	if b, _ := s.Said(api.Id{1}); string(b) != "ok" {
		t.Error("R6: Said shares memory")
	}
	if y, _ := s.Seen(api.Id{1}); y.Code != api.OK {
		t.Errorf("P21.1: its code is %d", y.Code)
	}
	if x, is := s.Waits(api.Id{1}); is || x.Public != nil {
		t.Error("P21.1: it still waits")
	}
	want(t, "P21.1: ErrNone", s.Commit(api.Id{1}, out(5), nil), api.ErrNone)
	s.Commit(api.Id{2}, out(6), nil)
	if b, is := s.Window(10); !is || b.Total.Many != 2 || b.Total.Sum[0] != (api.Elem{11}) || len(s.Book()) != 1 {
		t.Errorf("P21.1: its window: %v", b)
	}
	s.Commit(api.Id{3}, out(6), nil)
	want(t, "P21.1: Fits' error", s.Commit(api.Id{4}, out(1), nil), api.ErrFull)
	s.Close(10)
	want(t, "P21.1: Fits' error", s.Commit(api.Id{4}, out(1), nil), api.ErrClosed)
	want(t, "P21.1: Fits' error", s.Accept(report(6, 19)), api.ErrClosed)
	if w := s.Waiting(0, 1<<63); len(w) != 2 || w[0].Id != (api.Id{4}) || w[1].Id != (api.Id{5}) {
		t.Errorf("P21.2: Waiting: %v", w)
	}
	if len(s.Waiting(14, 15)) != 1 || len(s.Waiting(0, 14)) != 0 {
		t.Error("P21.2: Waiting from, to")
	}
}

func TestRejectAndRefuse(t *testing.T) {
	s := open(t, disk.New(1<<20))
	s.Accept(report(1, 1))
	want(t, "P21.1: ErrNone", s.Reject(api.Id{2}, 0), api.ErrNone)
	for _, code := range []api.Errno{-1, 0, 30, 32} {
		want(t, "P21.1: ErrKind", s.Reject(api.Id{1}, code), api.ErrKind)
		want(t, "P21.1: ErrKind", s.Refuse(api.Id{1}, 0, code), api.ErrKind)
	}
	want(t, "P21.1: Reject", s.Reject(api.Id{1}, 31), api.OK)
	want(t, "P21.1: ErrNone", s.Reject(api.Id{1}, 31), api.ErrNone)
	if y, _ := s.Seen(api.Id{1}); y.Code != 31 || len(s.Waiting(0, 99)) != 0 {
		t.Errorf("P21.1: its code is %d", y.Code)
	}
	if _, is := s.Said(api.Id{1}); is {
		t.Error("P21.2: Said of what was rejected")
	}
	want(t, "P21.1: Refuse", s.Refuse(api.Id{2}, 7, api.ErrNone), api.OK)
	if y, is := s.Seen(api.Id{2}); !is || y != (replay.Seen{Id: api.Id{2}, Time: 7, Code: api.ErrNone}) {
		t.Errorf("P21.1: Refuse: %v", y)
	}
	want(t, "P21.1: ErrReplay", s.Refuse(api.Id{2}, 7, api.ErrNone), api.ErrReplay)
	want(t, "P21.1: ErrTime", s.Refuse(api.Id{3}, 1<<41, api.ErrNone), api.ErrTime)
	if _, cells := s.Life(); cells != 5 {
		t.Errorf("P21.1: %d cells", cells)
	}
}

func TestClose(t *testing.T) {
	s := open(t, disk.New(1<<20))
	for n := byte(1); n <= 3; n++ {
		s.Accept(report(n, 10))
	}
	s.Commit(api.Id{1}, out(5), nil)
	for start, code := range map[uint64]api.Errno{11: api.ErrTime, 1<<40 + 4: api.ErrTime, 20: api.ErrNone, 10: api.ErrFew} {
		x, e := s.Close(start)
		want(t, "P21.1: Close", e, code)
		if !total.Same(x, total.Total{}) {
			t.Error("R3: Close")
		}
	}
	s.Commit(api.Id{2}, out(6), nil)
	_, before := s.Life()
	for range 3 {
		x, e := s.Close(10)
		want(t, "P21.1: Close", e, api.OK)
		if x.Many != 2 || !slices.Equal(x.Sum, out(11)) {
			t.Errorf("P21.1: Close: %v", x)
		}
		x.Sum[0] = api.Elem{99}
	}
	if _, after := s.Life(); after != before+1 {
		t.Error("P21.1: closed again, nothing is noted")
	}
	if b, _ := s.Window(10); !b.Closed || !s.Book()[0].Closed {
		t.Error("P21.1: it is closed")
	}
}

// A full disk: nothing is done that isn't noted.
func TestFullDisk(t *testing.T) {
	d := disk.New(64 * 4)
	s := open(t, d)
	s.Accept(report(1, 10))
	s.Accept(report(2, 10))
	before, _ := d.Read(File)
	want(t, "R4: Refuse without room for both records", s.Refuse(api.Id{3}, 10, api.ErrNone), api.ErrFull)
	if after, _ := d.Read(File); !bytes.Equal(before, after) || len(s.All()) != 2 {
		t.Error("R4: Refuse changed something")
	}
	want(t, "P21.1: the journal's error", s.Commit(api.Id{1}, out(1), make([]byte, 60)), api.ErrFull)
	want(t, "P21.1: Commit", s.Commit(api.Id{1}, out(1), nil), api.OK)
	want(t, "P21.1: the journal's error", s.Commit(api.Id{2}, out(1), nil), api.ErrFull)
	want(t, "P21.1: the journal's error", s.Reject(api.Id{2}, 1), api.ErrFull)
	want(t, "P21.1: the journal's error", s.Accept(report(5, 10)), api.ErrFull)
	if b, _ := s.Window(10); b.Total.Many != 1 || len(s.Waiting(0, 99)) != 1 || len(s.All()) != 2 {
		t.Error("R4: an error changed something")
	}
}

func TestRecordsAreTold(t *testing.T) {
	d := disk.New(1 << 20)
	s := open(t, d)
	s.Accept(report(1, 10))
	s.Commit(api.Id{1}, out(5), []byte("said"))
	s.Refuse(api.Id{2}, 10, 9)
	s.Accept(report(3, 11))
	s.Commit(api.Id{3}, out(6), nil)
	s.Close(10)
	b, _ := d.Read(File)
	records, _, _ := journal.Scan(b)
	id := func(n byte) []byte { return append([]byte{n}, make([]byte, 15)...) }
	for i, w := range [][]byte{
		{5, 1, 0, 0, 0, 0, 0},
		slices.Concat([]byte{1}, id(1), []byte{10, 0, 0, 0, 0, 0, 2, 0, 0, 0, 1, 1, 2, 0, 0, 0, 1, 2}),
		slices.Concat([]byte{2}, id(1), []byte{8, 0, 0, 0, 5, 0, 0, 0, 0, 0, 0, 0, 4, 0, 0, 0}, []byte("said")),
		slices.Concat([]byte{1}, id(2), []byte{10, 0, 0, 0, 0, 0}, make([]byte, 8)),
		slices.Concat([]byte{3}, id(2), []byte{9}),
		slices.Concat([]byte{1}, id(3), []byte{11, 0, 0, 0, 0, 0, 2, 0, 0, 0, 3, 1, 2, 0, 0, 0, 3, 2}),
		slices.Concat([]byte{2}, id(3), []byte{8, 0, 0, 0, 6, 0, 0, 0, 0, 0, 0, 0, 0, 0, 0, 0}),
		{4, 10, 0, 0, 0, 0, 0},
	} {
		if i >= len(records) || !bytes.Equal(records[i], w) {
			t.Fatalf("P21.1: record %d of %v", i, records)
		}
	}
}

// Behind a crash a store is as it was behind one of the records since the last Sync.
func TestCrashes(t *testing.T) {
	d := disk.New(1 << 20)
	s := open(t, d)
	steps := []func(){
		func() { s.Accept(report(1, 10)) }, func() { s.Accept(Report{Id: api.Id{2}, Time: 12, Share: make([]byte, 200)}) }, func() { s.Commit(api.Id{1}, out(5), make([]byte, 100)) },
		func() { s.Sync() }, func() { s.Commit(api.Id{2}, out(6), nil) }, func() { s.Close(10) }, func() { s.Accept(report(3, 20)) }, func() { s.Reject(api.Id{3}, 12) },
		func() { s.Refuse(api.Id{4}, 21, api.ErrNone) },
	}
	const synced = 4
	behind := []*Store{}
	sizes := []int{}
	note := func() {
		c := d.Copy()
		c.Sync(File)
		behind = append(behind, open(t, c))
		sizes = append(sizes, d.Used())
	}
	for i, step := range steps {
		if i == synced {
			note()
		}
		step()
		if i >= synced {
			note()
		}
	}
	if !sameState(behind[len(behind)-1], s) {
		t.Errorf("P21.1: done again: %v, %v", state(behind[len(behind)-1]), state(s))
	}
	for keep := 0; keep <= d.Loose(File); keep += 8 {
		c := d.Copy()
		c.Crash(keep)
		at := 0
		for at+1 < len(sizes) && sizes[at+1] <= sizes[0]+keep {
			at++
		}
		x := open(t, c)
		if !sameState(x, behind[at]) {
			// A Refuse has two records: between them its report waits.
			if w := x.Waiting(0, 99); len(w) != 1 || w[0].Id != (api.Id{4}) {
				t.Fatalf("P21.3: %d loose bytes kept", keep)
			}
		}
		if life, _ := x.Life(); life != 2 {
			t.Errorf("P21.1: life %d", life)
		}
	}
}

// record is one as bytes.
func record(fill func(w *pack.Writer)) []byte {
	var w pack.Writer
	fill(&w)
	return w.Bytes()
}

func TestRecordsThatCannotBeDoneAgain(t *testing.T) {
	id := api.Id{1}
	accept := record(func(w *pack.Writer) { w.Uint(1, 1); w.Raw(id[:]...); w.Uint(10, 6); w.Long(nil); w.Long(nil) })
	commit := func(vec []byte) []byte {
		return record(func(w *pack.Writer) { w.Uint(2, 1); w.Raw(id[:]...); w.Long(vec); w.Long(nil) })
	}
	reject := func(code byte) []byte {
		return record(func(w *pack.Writer) { w.Uint(3, 1); w.Raw(id[:]...); w.Raw(code) })
	}
	for i, c := range []struct {
		records [][]byte
		want    api.Errno
	}{
		{[][]byte{accept}, api.OK}, {[][]byte{accept, commit(make([]byte, 8))}, api.OK}, {[][]byte{accept, reject(1)}, api.OK},
		{[][]byte{{}}, api.ErrHalt}, {[][]byte{{0}}, api.ErrHalt}, {[][]byte{{6}}, api.ErrHalt}, {[][]byte{{5, 1}}, api.ErrHalt}, {[][]byte{{5, 1, 0, 0, 0, 0, 0, 0}}, api.ErrHalt},
		{[][]byte{accept[:30]}, api.ErrHalt}, {[][]byte{append(slices.Clone(accept), 0)}, api.ErrHalt}, {[][]byte{accept, accept}, api.ErrHalt}, {[][]byte{commit(make([]byte, 8))}, api.ErrHalt},
		{[][]byte{accept, commit(make([]byte, 9))}, api.ErrHalt}, {[][]byte{accept, commit(bytes.Repeat([]byte{255}, 8))}, api.ErrHalt}, {[][]byte{reject(1)}, api.ErrHalt},
		{[][]byte{accept, reject(0)}, api.ErrHalt}, {[][]byte{accept, reject(30)}, api.ErrHalt}, {[][]byte{accept, reject(32)}, api.ErrHalt}, {[][]byte{{4, 10, 0, 0, 0, 0, 0}}, api.ErrHalt},
	} {
		d := disk.New(1 << 20)
		j, _, _ := journal.Open(d, File)
		for _, r := range c.records {
			j.Append(r)
		}
		s, e := Open(d, task, rules, 8)
		if e != c.want || (s != nil) != (e == api.OK) {
			t.Errorf("P21.1: case %d: %d", i, e)
		}
	}
}

func TestNil(t *testing.T) {
	for _, s := range []*Store{nil, {}} {
		_, e := s.Close(0)
		for _, x := range []api.Errno{s.Accept(Report{}), s.Commit(api.Id{}, nil, nil), s.Reject(api.Id{}, 1), s.Refuse(api.Id{}, 0, 1), s.Sync(), e} {
			if x == api.OK {
				t.Error("R7: no error")
			}
		}
		_, a := s.Seen(api.Id{})
		_, b := s.Said(api.Id{})
		_, c := s.Waits(api.Id{})
		_, d := s.Window(0)
		life, cells := s.Life()
		if a || b || c || d || life != 0 || cells != 0 || s.Waiting(0, 9) != nil || s.All() != nil || len(s.Book()) != 0 || s.Rules() != (bucket.Rules{}) {
			t.Error("R7: nil")
		}
	}
	var s *Store
	want(t, "R7: nil", s.Accept(Report{}), api.ErrNil)
	want(t, "R7: nil", s.Refuse(api.Id{}, 0, 0), api.ErrNil)
}

func TestExamples(t *testing.T) {
	d := disk.New(1 << 20)
	s := open(t, d)
	s.Accept(report(1, 10))
	s.Sync()
	d.Crash(0)
	if _, is := open(t, d).Waits(api.Id{1}); !is {
		t.Error("example: it waits")
	}
}
