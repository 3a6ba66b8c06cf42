package msg

import (
	"bytes"
	"slices"
	"testing"

	"tallyman/api"
)

func full() Message {
	return Message{
		Kind: Init, Job: 0x010203040506 & (1<<40 - 1), Start: 1 << 40, Many: 256, Sum: [16]byte{1, 15: 2}, Code: 31,
		Entries: []Entry{
			{Id: api.Id{3, 15: 4}, Time: 1 << 40, Public: []byte("pub"), Share: []byte("s"), Code: 30},
			{Id: api.Id{5}},
		},
	}
}

func TestCheck(t *testing.T) {
	if Upload != 1 || Init != 2 || Reply != 3 || Collect != 4 || Ask != 5 || Answer != 6 || Got != 7 {
		t.Error("the kinds' numbers")
	}
	if e := full().Check(); e != api.OK {
		t.Errorf("P20.1: Check: %d", e)
	}
	for kind := range 256 {
		want := api.ErrKind
		if kind >= 1 && kind <= 7 {
			want = api.OK
		}
		if e := (Message{Kind: uint8(kind), Entries: make([]Entry, 1)}).Check(); e != want {
			t.Errorf("P20.1: Check of kind %d: %d", kind, e)
		}
		if kind == Upload || kind == Got {
			want = api.ErrForm
		}
		if e := (Message{Kind: uint8(kind)}).Check(); e != want {
			t.Errorf("P20.1: Check of kind %d without entries: %d", kind, e)
		}
		if e := (Message{Kind: uint8(kind), Entries: make([]Entry, 2)}).Check(); e != want {
			t.Errorf("P20.1: Check of kind %d with two entries: %d", kind, e)
		}
	}
	for i, c := range []struct {
		wrong func(m *Message)
		want  api.Errno
	}{
		{func(m *Message) { m.Job = 1<<40 + 1 }, api.ErrRange}, {func(m *Message) { m.Start = 1<<40 + 1 }, api.ErrRange}, {func(m *Message) { m.Many = -1 }, api.ErrRange},
		{func(m *Message) { m.Many = 257 }, api.ErrRange}, {func(m *Message) { m.Code = -1 }, api.ErrRange}, {func(m *Message) { m.Code = 32 }, api.ErrRange},
		{func(m *Message) { m.Code, m.Kind = 32, 0 }, api.ErrKind}, {func(m *Message) { m.Entries = make([]Entry, 257) }, api.ErrMany}, {func(m *Message) { m.Entries = make([]Entry, 256) }, api.OK},
		{func(m *Message) { m.Entries, m.Many = make([]Entry, 257), 257 }, api.ErrRange}, {func(m *Message) { m.Kind, m.Entries = Upload, make([]Entry, 257) }, api.ErrMany},
		{func(m *Message) { m.Entries[1].Time = 1<<40 + 1 }, api.ErrRange}, {func(m *Message) { m.Entries[1].Code = -1 }, api.ErrRange}, {func(m *Message) { m.Entries[1].Code = 32 }, api.ErrRange},
		{func(m *Message) { m.Entries[1].Public = make([]byte, 65537) }, api.ErrLong}, {func(m *Message) { m.Entries[1].Share = make([]byte, 65537) }, api.ErrLong},
		{func(m *Message) { m.Entries[1].Public, m.Entries[1].Share = make([]byte, 65536), make([]byte, 65536) }, api.OK},
		{func(m *Message) { m.Entries[0].Share, m.Entries[1].Code = make([]byte, 65537), 32 }, api.ErrLong}, {func(m *Message) { m.Entries[0].Code, m.Entries[0].Share = 32, make([]byte, 65537) }, api.ErrRange},
	} {
		m := full()
		c.wrong(&m)
		b, e := m.Encode()
		if m.Check() != c.want || e != c.want || (b != nil) != (e == api.OK) {
			t.Errorf("P20.1: case %d: %d, %d", i, m.Check(), e)
		}
	}
}

func TestEncodeAndDecode(t *testing.T) {
	m := full()
	b, e := m.Encode()
	want := slices.Concat(
		[]byte{2, 6, 5, 4, 3, 2, 0, 0, 0, 0, 0, 0, 1, 0, 1}, m.Sum[:], []byte{31, 2, 0},
		m.Entries[0].Id[:], []byte{0, 0, 0, 0, 0, 1, 30, 3, 0, 0, 0, 'p', 'u', 'b', 1, 0, 0, 0, 's'},
		m.Entries[1].Id[:], make([]byte, 15),
	)
	if e != api.OK || !bytes.Equal(b, want) {
		t.Errorf("P20.2: Encode: %v, %d", b, e)
	}
	if got, e := Decode(b); e != api.OK || !Same(got, m) {
		t.Errorf("P20.2: Decode: %v, %d", got, e)
	}
	for n := range len(b) {
		if got, e := Decode(b[:n]); e != api.ErrShort || !Same(got, Message{}) {
			t.Errorf("P20.2: Decode of %d bytes: %d", n, e)
		}
	}
	if _, e := Decode(append(b, 0)); e != api.ErrRest {
		t.Errorf("P20.2: Decode of too many bytes: %d", e)
	}
}

// packed is a message of so many empty entries.
func packed(many int) []byte {
	head := make([]byte, 34)
	head[0] = Init
	head[32], head[33] = byte(many), byte(many>>8)
	return append(head, make([]byte, 31*many)...)
}

func TestDecodeErrors(t *testing.T) {
	if m, e := Decode(packed(256)); e != api.OK || len(m.Entries) != 256 {
		t.Errorf("P20.2: Decode of 256 entries: %d", e)
	}
	if m, e := Decode(packed(257)); e != api.ErrRange || !Same(m, Message{}) {
		t.Errorf("P20.2: Decode of 257 entries: %d", e)
	}
	for i, c := range []struct {
		at   int
		with byte
		want api.Errno
	}{
		{0, 0, api.ErrKind}, {0, 8, api.ErrKind}, {0, Upload, api.ErrForm}, {6, 2, api.ErrRange}, {12, 2, api.ErrRange}, {14, 2, api.ErrRange}, {31, 32, api.ErrRange},
		{34 + 21, 2, api.ErrRange}, {34 + 22, 32, api.ErrRange}, {34 + 23, 1, api.ErrShort}, {34 + 25, 2, api.ErrLong}, {34 + 29, 2, api.ErrLong},
	} {
		b := packed(2)
		b[c.at] = c.with
		if m, e := Decode(b); e != c.want || !Same(m, Message{}) {
			t.Errorf("P20.2: Decode, case %d: %d", i, e)
		}
	}
	// How many entries there are is told, and looked at, ahead of them.
	if _, e := Decode(packed(257)[:34]); e != api.ErrRange {
		t.Errorf("P20.2: Decode of 257 entries that aren't there: %d", e)
	}
	if _, e := Decode(packed(256)[:34]); e != api.ErrShort {
		t.Errorf("P20.2: Decode of 256 entries that aren't there: %d", e)
	}
	wrong := append(packed(2), 0)
	wrong[0] = 0
	if _, e := Decode(wrong); e != api.ErrRest {
		t.Errorf("R2: Decode: %d", e)
	}
}

func TestSameAndClone(t *testing.T) {
	if !Same(full(), full()) || !Same(Message{Entries: []Entry{{Public: []byte{}}}}, Message{Entries: []Entry{{}}}) || !Same(Message{Entries: []Entry{}}, Message{}) {
		t.Error("P20.2: Same")
	}
	for i, other := range []func(m *Message){
		func(m *Message) { m.Kind++ }, func(m *Message) { m.Job++ }, func(m *Message) { m.Start++ }, func(m *Message) { m.Many++ }, func(m *Message) { m.Sum[3]++ }, func(m *Message) { m.Code++ },
		func(m *Message) { m.Entries = m.Entries[:1] }, func(m *Message) { m.Entries[1].Id[3]++ }, func(m *Message) { m.Entries[1].Time++ }, func(m *Message) { m.Entries[1].Code++ },
		func(m *Message) { m.Entries[0].Public[1]++ }, func(m *Message) { m.Entries[0].Share = nil },
	} {
		m := full()
		c := m.Clone()
		if !Same(m, c) {
			t.Error("P20.2: Clone")
		}
		other(&c)
		if i != 6 && !Same(m, full()) {
			t.Errorf("P20.2: case %d: Clone shares memory", i)
		}
		if Same(m, c) {
			t.Errorf("P20.2: case %d: Same", i)
		}
	}
}

func TestExamples(t *testing.T) {
	if b, e := (Message{Kind: Collect}).Encode(); e != api.OK || len(b) != 34 {
		t.Errorf("example: %d bytes, %d", len(b), e)
	}
}
