package pack

import (
	"bytes"
	"strings"
	"testing"

	"tallyman/api"
)

func TestWriter(t *testing.T) {
	var w Writer
	if len(w.Bytes()) != 0 {
		t.Error("P12.1: a zero Writer has nothing")
	}
	w.Raw(1, 2)
	w.Raw()
	w.Uint(0x0102030405060708, 3)
	w.Uint(9, 0)
	w.Uint(9, -4)
	w.Uint(0x0102030405060708, 99)
	w.Text("hi")
	w.Text("")
	want := []byte{1, 2, 8, 7, 6, 8, 7, 6, 5, 4, 3, 2, 1, 2, 'h', 'i', 0}
	if !bytes.Equal(w.Bytes(), want) {
		t.Errorf("P12.1: %v", w.Bytes())
	}
	w.Bytes()[0] = 77
	got := w.Bytes()
	if got[0] != 1 {
		t.Error("R6: Bytes shares memory")
	}
	w.Raw(5)
	if len(got) != len(want) || len(w.Bytes()) != len(want)+1 {
		t.Error("P12.1: Bytes is as it was")
	}
	var long Writer
	long.Text(strings.Repeat("x", 300))
	if b := long.Bytes(); len(b) != 256 || b[0] != 255 {
		t.Errorf("P12.1: a long text: %d bytes", len(b))
	}
}

func TestNil(t *testing.T) {
	var w *Writer
	w.Raw(1)
	w.Uint(1, 1)
	w.Long([]byte{1})
	w.Text("x")
	if w.Bytes() != nil {
		t.Error("R7: a nil Writer")
	}
	for _, r := range []*Reader{nil, {}} {
		silent(t, r)
	}
	if e := Read([]byte{1}, nil); e != api.ErrNil {
		t.Errorf("P12.2: no take: %d", e)
	}
}

// silent: does a Reader outside of any reading answer zero values?
func silent(t *testing.T, r *Reader) {
	t.Helper()
	r.Fail(api.ErrNone)
	if r.Left() != 0 || r.Raw(2) != nil || r.Raw(-1) != nil || r.Uint(4) != 0 || r.Count(4, 9) != 0 || r.Long(9) != nil || r.Text() != "" || r.Seed() != (api.Seed{}) || r.Id() != (api.Id{}) {
		t.Error("P12.2: outside of Read")
	}
}

func TestReadBack(t *testing.T) {
	var w Writer
	w.Raw(9, 8)
	w.Uint(300, 2)
	w.Uint(1<<63+5, 8)
	w.Long([]byte("abc"))
	w.Text("hello")
	w.Raw(make([]byte, 15)...)
	w.Raw(1)
	w.Raw(2)
	w.Raw(make([]byte, 15)...)
	in := w.Bytes()
	var kept *Reader
	var copied Reader
	e := Read(in, func(r *Reader) {
		kept, copied = r, *r
		if r.Left() != len(in) || len(r.Raw(0)) != 0 || !bytes.Equal(r.Raw(2), []byte{9, 8}) || r.Uint(0) != 0 || r.Uint(-3) != 0 || r.Uint(2) != 300 {
			t.Error("P12.2: Left, Raw, Uint")
		}
		if n := r.Count(8, 1<<64-1); n != -1<<63+5 {
			t.Errorf("P12.2: Count as an int: %d", n)
		}
		b := r.Long(3)
		if !bytes.Equal(b, []byte("abc")) || r.Text() != "hello" || r.Left() != 32 {
			t.Error("P12.2: Long, Text")
		}
		b[0] = 'z'
		r.Fail(api.OK)
		if r.Seed() != (api.Seed{15: 1}) || r.Id() != (api.Id{2}) || r.Left() != 0 {
			t.Error("P12.2: Seed, Id")
		}
	})
	if e != api.OK || !bytes.Equal(in, w.Bytes()) {
		t.Errorf("P12.2: Read: %d", e)
	}
	silent(t, kept)
	silent(t, &copied)
}

func TestWhatCannotBeRead(t *testing.T) {
	for i, c := range []struct {
		in   []byte
		take func(r *Reader)
		want api.Errno
	}{
		{nil, func(r *Reader) {}, api.OK}, {[]byte{1}, func(r *Reader) {}, api.ErrRest}, {[]byte{1, 2}, func(r *Reader) { r.Raw(1) }, api.ErrRest},
		{[]byte{1}, func(r *Reader) { r.Raw(2) }, api.ErrShort}, {[]byte{1}, func(r *Reader) { r.Raw(-1) }, api.ErrShort}, {[]byte{1}, func(r *Reader) { r.Raw(-1 << 63) }, api.ErrShort},
		{[]byte{1}, func(r *Reader) { r.Uint(2) }, api.ErrShort}, {make([]byte, 7), func(r *Reader) { r.Uint(9) }, api.ErrShort},
		{[]byte{4}, func(r *Reader) { r.Count(1, 3) }, api.ErrRange}, {[]byte{3}, func(r *Reader) { r.Count(1, 3) }, api.OK}, {[]byte{3}, func(r *Reader) { r.Count(2, 1) }, api.ErrShort},
		{[]byte{2, 0, 0}, func(r *Reader) { r.Long(0) }, api.ErrShort}, {[]byte{2, 0, 0, 0}, func(r *Reader) { r.Long(1) }, api.ErrLong}, {[]byte{2, 0, 0, 0, 1}, func(r *Reader) { r.Long(2) }, api.ErrShort},
		{[]byte{0, 0, 0, 0}, func(r *Reader) { r.Long(-5) }, api.OK}, {[]byte{1, 0, 0, 0, 1}, func(r *Reader) { r.Long(-5) }, api.ErrLong}, {[]byte{255, 255, 255, 255}, func(r *Reader) { r.Long(1<<63 - 1) }, api.ErrShort},
		{nil, func(r *Reader) { r.Text() }, api.ErrShort}, {[]byte{2, 65}, func(r *Reader) { r.Text() }, api.ErrShort}, {make([]byte, 15), func(r *Reader) { r.Seed() }, api.ErrShort}, {make([]byte, 15), func(r *Reader) { r.Id() }, api.ErrShort},
		{[]byte{1}, func(r *Reader) { r.Fail(api.ErrWait) }, api.ErrWait}, {nil, func(r *Reader) { r.Fail(-7) }, -7},
	} {
		behind := false
		var kept *Reader
		e := Read(c.in, func(r *Reader) {
			kept = r
			c.take(r)
			behind = true
		})
		if e != c.want || behind != (e == api.OK || e == api.ErrRest) {
			t.Errorf("P12.2: case %d: %d", i, e)
		}
		silent(t, kept)
	}
}

func TestOtherPanicsGoOn(t *testing.T) {
	var kept *Reader
	defer func() {
		if cause := recover(); cause != "mine" {
			t.Errorf("P12.2: what panicked: %v", cause)
		}
		silent(t, kept)
	}()
	Read([]byte{1}, func(r *Reader) {
		kept = r
		panic("mine")
	})
	t.Error("P12.2: it didn't go on")
}

func TestReadingsWithinReadings(t *testing.T) {
	inner := api.Errno(-1)
	outer := Read([]byte{1, 2, 3}, func(a *Reader) {
		inner = Read([]byte{4}, func(b *Reader) { b.Raw(2) })
		if a.Uint(1) != 1 {
			t.Error("P12.2: the outer reading goes on")
		}
		Read([]byte{5}, func(b *Reader) {
			b.Raw(1)
			a.Fail(api.ErrOther)
		})
		t.Error("P12.2: the outer reading's end ends both")
	})
	if inner != api.ErrShort || outer != api.ErrOther {
		t.Errorf("P12.2: %d, %d", inner, outer)
	}
}

// A take that catches its own end has ended nonetheless.
func TestACaughtEnd(t *testing.T) {
	e := Read([]byte{1}, func(r *Reader) {
		func() {
			defer func() { recover() }()
			r.Raw(9)
		}()
		silent(t, r)
	})
	if e != api.ErrShort {
		t.Errorf("P12.2: a caught end: %d", e)
	}
}

func TestExamples(t *testing.T) {
	var w Writer
	w.Long([]byte("ab"))
	if !bytes.Equal(w.Bytes(), []byte{2, 0, 0, 0, 97, 98}) {
		t.Errorf("example: %v", w.Bytes())
	}
}
