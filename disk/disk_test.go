package disk

import (
	"slices"
	"strconv"
	"strings"
	"testing"

	"tallyman/api"
)

func content(t *testing.T, d *Disk, s, want string) {
	t.Helper()
	if b, e := d.Read(s); e != api.OK || string(b) != want {
		t.Errorf("P16.1: %s is %q, %d; want %q", s, b, e, want)
	}
}

func TestAppendAndRead(t *testing.T) {
	d := New(10)
	b := []byte("xyz")
	if d.Append("a", b[:2]) != api.OK || b[2] != 'z' || d.Append("a", []byte("w")) != api.OK || d.Append("b", nil) != api.OK {
		t.Error("P16.1: Append")
	}
	b[0] = 'q'
	content(t, d, "a", "xyw")
	content(t, d, "b", "")
	got, _ := d.Read("a")
	got[0] = 'q'
	content(t, d, "a", "xyw")
	if d.Used() != 3 || d.Loose("a") != 3 || d.Loose("c") != 0 || !slices.Equal(d.Names(), []string{"a", "b"}) {
		t.Errorf("P16.1: Used %d, Loose %d, Names %v", d.Used(), d.Loose("a"), d.Names())
	}
	if b, e := d.Read("c"); b != nil || e != api.ErrNone {
		t.Errorf("P16.1: Read of none: %d", e)
	}
}

func TestNames(t *testing.T) {
	for s, want := range map[string]api.Errno{
		"": api.ErrName, "a": api.OK, "az09.-": api.OK, "...": api.OK, strings.Repeat("x", 16): api.OK, strings.Repeat("x", 17): api.ErrName,
		"A": api.ErrName, "a b": api.ErrName, "a/b": api.ErrName, "ä": api.ErrName, "a\x00": api.ErrName, "_": api.ErrName, "`": api.ErrName, "{": api.ErrName, ":": api.ErrName,
	} {
		d := New(5)
		if e := d.Append(s, nil); e != want || (len(d.Names()) == 1) != (want == api.OK) {
			t.Errorf("P16.1: Append to %q: %d", s, e)
		}
		if e := d.Append(s, make([]byte, 99)); want == api.ErrName && e != want {
			t.Errorf("R2: Append to %q: %d", s, e)
		}
	}
}

func TestLimits(t *testing.T) {
	for limit, want := range map[int]int{-1 << 63: 0, -1: 0, 0: 0, 7: 7, 1 << 20: 1 << 20, 1<<20 + 1: 1 << 20, 1<<63 - 1: 1 << 20} {
		d := New(limit)
		if e := d.Append("a", make([]byte, want+1)); e != api.ErrFull || len(d.Names()) != 0 {
			t.Errorf("P16.1: a disk of %d: %d", limit, e)
		}
		if e := d.Append("a", make([]byte, want)); e != api.OK || d.Used() != want {
			t.Errorf("P16.1: a disk of %d: %d", limit, e)
		}
		if e := d.Append("b", []byte{1}); e != api.ErrFull {
			t.Errorf("P16.1: all files together: %d", e)
		}
	}
	d := New(1 << 20)
	for i := range 64 {
		if e := d.Append("f"+strconv.Itoa(i), nil); e != api.OK {
			t.Errorf("P16.1: file %d: %d", i, e)
		}
	}
	if d.Append("more", make([]byte, 1<<21)) != api.ErrMany || d.Append("f0", []byte{1}) != api.OK {
		t.Error("P16.1: the 65th file")
	}
}

func TestSyncCutTurn(t *testing.T) {
	d := New(100)
	d.Append("a", []byte("abcdef"))
	if d.Sync("a") != api.OK || d.Loose("a") != 0 {
		t.Error("P16.1: Sync")
	}
	d.Append("a", []byte("gh"))
	for _, n := range []int{-1, 9, 1<<63 - 1} {
		if d.Cut("a", n) != api.ErrRange {
			t.Errorf("P16.1: Cut to %d", n)
		}
	}
	if d.Cut("a", 8) != api.OK || d.Cut("a", 7) != api.OK || d.Loose("a") != 1 || d.Cut("a", 3) != api.OK || d.Loose("a") != 0 {
		t.Error("P16.1: Cut")
	}
	d.Append("a", []byte("xy"))
	content(t, d, "a", "abcxy")
	if d.Loose("a") != 2 {
		t.Error("P16.1: what is behind a cut is loose")
	}
	if d.Turn("a", 0) != api.OK || d.Turn("a", 39) != api.OK || d.Turn("a", 9) != api.OK {
		t.Error("P16.1: Turn")
	}
	content(t, d, "a", "``cx\xf9")
	for _, bit := range []int{-1, 40, 1<<63 - 1, -1 << 63} {
		if d.Turn("a", bit) != api.ErrRange {
			t.Errorf("P16.1: Turn of %d", bit)
		}
	}
	if d.Sync("b") != api.ErrNone || d.Cut("b", -1) != api.ErrNone || d.Turn("b", -1) != api.ErrNone {
		t.Error("P16.1: ErrNone")
	}
}

func TestCrash(t *testing.T) {
	for keep, want := range map[int]string{-1 << 63: "ab", -1: "ab", 0: "ab", 1: "abc", 2: "abcd", 3: "abcd", 1<<63 - 1: "abcd"} {
		d := New(100)
		d.Append("a", []byte("ab"))
		d.Sync("a")
		d.Append("a", []byte("cd"))
		d.Append("b", []byte("z"))
		d.Crash(keep)
		content(t, d, "a", want)
		content(t, d, "b", "z"[:min(1, max(0, keep))])
		if d.Loose("a") != 0 || d.Loose("b") != 0 {
			t.Error("P16.2: all is synced")
		}
		d.Append("a", []byte("e"))
		content(t, d, "a", want+"e")
	}
}

func TestCopy(t *testing.T) {
	d := New(5)
	d.Append("a", []byte("ab"))
	d.Sync("a")
	d.Append("a", []byte("c"))
	c := d.Copy()
	if c.Loose("a") != 1 || c.Used() != 3 || c.Append("a", make([]byte, 3)) != api.ErrFull {
		t.Error("P16.2: Copy")
	}
	c.Turn("a", 0)
	c.Append("b", nil)
	content(t, d, "a", "abc")
	content(t, c, "a", "`bc")
	if len(d.Names()) != 1 {
		t.Error("P16.2: a copy is another one")
	}
}

func TestNil(t *testing.T) {
	var d *Disk
	_, e := d.Read("a")
	if d.Append("", nil) != api.ErrNil || d.Sync("a") != api.ErrNil || d.Cut("a", 0) != api.ErrNil || e != api.ErrNil || d.Turn("a", 0) != api.ErrNil {
		t.Error("R7: errors")
	}
	d.Crash(1)
	if d.Loose("a") != 0 || d.Names() != nil || d.Used() != 0 || d.Copy() != nil {
		t.Error("R7: zero values")
	}
	var zero Disk
	if zero.Append("a", nil) != api.OK || zero.Append("a", []byte{1}) != api.ErrFull || len(zero.Copy().Names()) != 1 {
		t.Error("P1: a zero disk")
	}
}

func TestExamples(t *testing.T) {
	d := New(100)
	d.Append("a", []byte("xy"))
	d.Sync("a")
	d.Append("a", []byte("zz"))
	d.Crash(1)
	content(t, d, "a", "xyz")
}
