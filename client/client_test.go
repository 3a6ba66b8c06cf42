package client

import (
	"bytes"
	"slices"
	"testing"

	"tallyman/api"
	"tallyman/circuit"
	"tallyman/field"
	"tallyman/msg"
	"tallyman/share"
	"tallyman/xof"
)

var (
	id     = api.Id{1, 15: 2}
	task   = share.Task{Circuit: circuit.Circuit{Kind: circuit.Sum, Field: field.Small, Bits: 4}, Proofs: 2, Tag: "t"}
	random = share.Random{Helper: api.Seed{1}, First: api.Seed{2}, Second: api.Seed{3}, Prove: api.Seed{4}}
)

func raw(t *testing.T) *Client {
	t.Helper()
	c, e := Raw(id, 7, []byte("public"), []byte("leader"), []byte("helper"))
	if e != api.OK {
		t.Fatal(e)
	}
	return c
}

func upload(share string) msg.Message {
	return msg.Message{Kind: msg.Upload, Entries: []msg.Entry{{Id: id, Time: 7, Public: []byte("public"), Share: []byte(share)}}}
}

func got(id api.Id, code api.Errno) msg.Message {
	return msg.Message{Kind: msg.Got, Entries: []msg.Entry{{Id: id, Time: 7, Code: code}}}
}

func TestRaw(t *testing.T) {
	public := []byte("public")
	c, _ := Raw(id, 7, public, []byte("leader"), []byte("helper"))
	public[0] = 'x'
	l := c.Tick(0)
	if len(l) != 2 || l[0].To != ToLeader || l[1].To != ToHelper || !msg.Same(l[0].Message, upload("leader")) || !msg.Same(l[1].Message, upload("helper")) {
		t.Errorf("P22.1: %v", l)
	}
	l[0].Message.Entries[0].Public[0] = 'y'
	l[0].Message.Entries[0].Id = api.Id{}
	if l := c.Tick(1); !msg.Same(l[0].Message, upload("leader")) || !msg.Same(l[1].Message, upload("helper")) {
		t.Error("R6: letters share memory")
	}
	long := make([]byte, 65537)
	for i, want := range []api.Errno{api.ErrRange, api.ErrLong, api.ErrLong, api.ErrLong, api.OK} {
		now := uint64(1 << 40)
		parts := [3][]byte{long[1:], long[1:], long[1:]}
		if i == 0 {
			now++
		} else if i < 4 {
			parts[i-1] = long
		}
		if c, e := Raw(id, now, parts[0], parts[1], parts[2]); e != want || (c != nil) != (e == api.OK) {
			t.Errorf("P22.1: case %d: %d", i, e)
		}
	}
}

func TestNew(t *testing.T) {
	s := xof.Real()
	c, e := New(task, s, id, 9, circuit.Measure{11}, random)
	if e != api.OK {
		t.Fatal(e)
	}
	p, l, h, _ := task.Shard(s, id, circuit.Measure{11}, random)
	for i, x := range c.Tick(0) {
		entry := x.Message.Entries[0]
		if entry.Id != id || entry.Time != 9 || !bytes.Equal(entry.Public, task.PutPublic(p)) || !bytes.Equal(entry.Share, [][]byte{task.PutLeader(l), task.PutHelper(h)}[i]) {
			t.Errorf("P22.1: letter %d", i)
		}
	}
	_, e1 := New(share.Task{}, nil, id, 1<<41, nil, random)
	_, e2 := New(task, s, id, 1<<41, circuit.Measure{16}, random)
	_, e3 := New(task, nil, id, 1<<41, circuit.Measure{1}, random)
	_, e4 := New(task, s, id, 1<<41, circuit.Measure{1}, random)
	if e1 != api.ErrField || e2 != api.ErrRange || e3 != api.ErrNil || e4 != api.ErrRange {
		t.Errorf("P22.1: New: %d, %d, %d, %d", e1, e2, e3, e4)
	}
}

func TestReceive(t *testing.T) {
	c := raw(t)
	for _, from := range []int{-1, 2, 1<<63 - 1} {
		if e := c.Receive(from, msg.Message{}); e != api.ErrRange {
			t.Errorf("P22.2: from %d: %d", from, e)
		}
	}
	two := got(id, 0)
	two.Entries = append(two.Entries, two.Entries[0])
	if c.Receive(0, upload("")) != api.ErrKind || c.Receive(0, msg.Message{Kind: msg.Got}) != api.ErrKind || c.Receive(0, two) != api.ErrKind || c.Receive(0, got(api.Id{}, 0)) != api.ErrNone {
		t.Error("P22.2: errors")
	}
	if done, codes := c.Done(); done || codes != [2]api.Errno{} {
		t.Error("P22.2: Done of what wasn't answered")
	}
	if c.Receive(ToHelper, got(id, api.ErrTime)) != api.OK || c.Receive(ToHelper, got(id, 0)) != api.ErrReplay || c.Receive(ToHelper, got(api.Id{}, 0)) != api.ErrNone {
		t.Error("P22.2: Receive")
	}
	if done, codes := c.Done(); done || codes != [2]api.Errno{0, api.ErrTime} {
		t.Errorf("P22.2: Done: %v", codes)
	}
	if l := c.Tick(0); len(l) != 1 || l[0].To != ToLeader {
		t.Errorf("P22.2: what wasn't answered: %v", l)
	}
	if c.Receive(ToLeader, got(id, 3)) != api.OK {
		t.Error("P22.2: Receive")
	}
	if done, codes := c.Done(); !done || codes != [2]api.Errno{3, api.ErrTime} {
		t.Errorf("P22.2: Done: %v", codes)
	}
	if l := c.Tick(50); len(l) != 0 {
		t.Errorf("P22.2: all was answered: %v", l)
	}
	if x, sent := c.Id(); x != id || sent != 1 {
		t.Errorf("P22.2: Id: %d", sent)
	}
}

func TestNil(t *testing.T) {
	for _, c := range []*Client{nil, {}} {
		done, codes := c.Done()
		x, sent := c.Id()
		if done || codes != [2]api.Errno{} || x != (api.Id{}) || sent != 0 {
			t.Error("R7: nil")
		}
		c.Tick(0)
		c.Receive(0, got(id, 0))
	}
	var c *Client
	if c.Receive(9, msg.Message{}) != api.ErrNil || c.Tick(0) != nil {
		t.Error("R7: nil")
	}
}

func TestExamples(t *testing.T) {
	c := raw(t)
	var times []uint64
	for now := range uint64(50) {
		if len(c.Tick(now)) > 0 {
			times = append(times, now)
		}
	}
	if _, sent := c.Id(); !slices.Equal(times, []uint64{0, 1, 3, 7, 15, 31, 47}) || sent != 7 {
		t.Errorf("example: %v", times)
	}
}
