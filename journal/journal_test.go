package journal

import (
	"bytes"
	"slices"
	"testing"

	"tallyman/api"
	"tallyman/disk"
	"tallyman/keccak"
)

func some(many int) []byte {
	b := make([]byte, many)
	for i := range b {
		b[i] = byte(i*7 + many)
	}
	return b
}

func laid(t *testing.T, number int, records ...[]byte) []byte {
	t.Helper()
	var b []byte
	for _, r := range records {
		l, e := Lay(number+len(b)/Cell, r)
		if e != api.OK {
			t.Fatal(e)
		}
		b = append(b, l...)
	}
	return b
}

// sealed is a cell with its hash ahead.
func sealed(others []byte) []byte { return append(keccak.Hash(9, others, 8), others...) }

func same(a, b [][]byte) bool { return slices.EqualFunc(a, b, bytes.Equal) }

func TestLay(t *testing.T) {
	for many, cells := range map[int]int{0: 1, 1: 1, 48: 1, 49: 2, 96: 2, 97: 3, 65536: 1366} {
		b := some(many)
		l, e := Lay(0x012345, b)
		if e != api.OK || len(l) != 64*cells {
			t.Fatalf("P17.1: Lay of %d: %d bytes, %d", many, len(l), e)
		}
		for i := range cells {
			number, follow := 0x012345+i, cells-1-i
			part := b[48*i : min(48*(i+1), many)]
			head := []byte{byte(number), byte(number >> 8), byte(number >> 16), byte(follow), byte(follow >> 8), byte(follow >> 16), byte(len(part)), 0}
			want := sealed(slices.Concat(head, part, make([]byte, 48-len(part))))
			if !bytes.Equal(l[64*i:64*(i+1)], want) {
				t.Fatalf("P17.1: Lay of %d, cell %d", many, i)
			}
		}
	}
	for _, number := range []int{-1, 1 << 20, -1 << 63, 1<<63 - 1} {
		if l, e := Lay(number, make([]byte, 70000)); l != nil || e != api.ErrRange {
			t.Errorf("P17.1: Lay of number %d: %d", number, e)
		}
	}
	if _, e := Lay(1<<20-1, make([]byte, 65536)); e != api.OK {
		t.Errorf("P17.1: Lay of the last number: %d", e)
	}
	if l, e := Lay(0, make([]byte, 65537)); l != nil || e != api.ErrLong {
		t.Errorf("P17.1: Lay of too many bytes: %d", e)
	}
}

func TestScan(t *testing.T) {
	records := [][]byte{some(3), {}, some(100), some(48)}
	b := laid(t, 0, records...)
	got, cells, e := Scan(b)
	if e != api.OK || cells != 6 || !same(got, records) {
		t.Errorf("P17.1: Scan: %d, %d cells", e, cells)
	}
	if got, cells, e := Scan(nil); e != api.OK || cells != 0 || len(got) != 0 {
		t.Errorf("P17.1: Scan of nothing: %d", e)
	}
	// Cut anywhere, the records that are whole are there.
	for n := range len(b) {
		got, cells, e := Scan(b[:n])
		want := 0
		for _, end := range []int{1, 2, 5, 6} {
			if n >= 64*end {
				want++
			}
		}
		if e != api.OK || !same(got, records[:want]) || cells != []int{0, 1, 2, 5, 6}[want] {
			t.Fatalf("P17.1: Scan of %d bytes: %d records, %d", n, len(got), e)
		}
	}
	// Any bit that is turned but in the last cell is told.
	for bit := 0; bit < 8*len(b); bit += 37 {
		wrong := slices.Clone(b)
		wrong[bit/8] ^= 1 << (bit % 8)
		got, cells, e := Scan(wrong)
		if bit/8 >= 5*64 {
			if e != api.OK || cells != 5 || len(got) != 3 {
				t.Errorf("P17.1: the last cell, bit %d: %d", bit, e)
			}
		} else if e != api.ErrHalt || got != nil || cells != 0 {
			t.Errorf("P17.1: bit %d: %d", bit, e)
		}
	}
}

func TestScanOfOtherCells(t *testing.T) {
	one := laid(t, 0, some(3))
	// A right cell of another place's number isn't one.
	if got, cells, e := Scan(slices.Concat(one, laid(t, 7, some(3)))); e != api.OK || cells != 1 || len(got) != 1 {
		t.Errorf("P17.1: another number: %d", e)
	}
	if _, _, e := Scan(slices.Concat(one, make([]byte, 64), laid(t, 2, some(3)))); e != api.ErrHalt {
		t.Errorf("P17.1: a right one behind: %d", e)
	}
	if got, cells, e := Scan(slices.Concat(one, make([]byte, 64), laid(t, 1, some(3)), []byte{1, 2})); e != api.OK || cells != 1 || len(got) != 1 {
		t.Errorf("P17.1: a right one of another number behind: %d", e)
	}
	// All that is there of the second record is right, but it isn't whole.
	two := laid(t, 0, some(3), some(100))
	if got, cells, e := Scan(two[:3*64]); e != api.OK || cells != 1 || len(got) != 1 {
		t.Errorf("P17.1: a record that isn't whole: %d", e)
	}
	// Its second cell isn't right, its third one is.
	two[64*2+20] ^= 1
	if _, _, e := Scan(two); e != api.ErrHalt {
		t.Errorf("P17.1: torn within a record: %d", e)
	}
	// Cells with right hashes that no record is laid in.
	for i, others := range [][]byte{
		{1, 0, 0, 0, 0, 0, 49, 0}, {1, 0, 0, 1, 0, 0, 47, 0}, {1, 0, 0, 0, 0, 0, 1, 0, 5, 5}, {1, 0, 0, 1, 0, 0, 48, 0},
	} {
		b := append(slices.Clone(one), sealed(append(others, make([]byte, 56-len(others))...))...)
		if got, cells, e := Scan(b); e != api.OK || cells != 1 || len(got) != 1 {
			t.Errorf("P17.1: cell %d: %d", i, e)
		}
	}
}

func TestOpenAppendSync(t *testing.T) {
	d := disk.New(10000)
	j, records, e := Open(d, "j")
	if e != api.OK || len(records) != 0 || j.Cells() != 0 || len(d.Names()) != 0 {
		t.Fatalf("P17.2: Open of no file: %d", e)
	}
	if j.Sync() != api.OK {
		t.Error("P17.2: Sync of nothing")
	}
	in := some(60)
	if j.Append(in) != api.OK || j.Append(nil) != api.OK || j.Cells() != 3 || d.Loose("j") != 192 {
		t.Error("P17.2: Append")
	}
	if b, _ := d.Read("j"); !bytes.Equal(b, laid(t, 0, in, nil)) {
		t.Error("P17.2: what stands there")
	}
	if j.Sync() != api.OK || d.Loose("j") != 0 {
		t.Error("P17.2: Sync")
	}
	j.Append(some(100))
	if j, records, e := Open(d.Copy(), "j"); e != api.OK || j.Cells() != 6 || !same(records, [][]byte{in, {}, some(100)}) {
		t.Errorf("P17.2: Open: %d", e)
	}
	d.Crash(130)
	j, records, e = Open(d, "j")
	if e != api.OK || j.Cells() != 3 || !same(records, [][]byte{in, {}}) || d.Used() != 192 || d.Loose("j") != 0 {
		t.Errorf("P17.2: Open of a torn file: %d", e)
	}
	if j.Append([]byte{9}) != api.OK || j.Cells() != 4 {
		t.Error("P17.2: Append behind a cut")
	}
	if _, records, e := Open(d, "j"); e != api.OK || len(records) != 3 {
		t.Errorf("P17.2: Open again: %d", e)
	}
}

func TestCutIsSynced(t *testing.T) {
	d := disk.New(10000)
	d.Append("j", laid(t, 0, some(3)))
	if _, _, e := Open(d, "j"); e != api.OK || d.Loose("j") != 64 {
		t.Errorf("P17.2: nothing is cut, nothing synced: %d", e)
	}
	d.Append("j", []byte{1})
	if _, _, e := Open(d, "j"); e != api.OK || d.Loose("j") != 0 || d.Used() != 64 {
		t.Errorf("P17.2: what is cut is synced: %d", e)
	}
}

func TestErrors(t *testing.T) {
	if j, _, e := Open(nil, "j"); j != nil || e != api.ErrNil {
		t.Errorf("P17.2: no disk: %d", e)
	}
	d := disk.New(200)
	d.Append("j", slices.Concat(make([]byte, 64), laid(t, 1, nil)))
	before, _ := d.Read("j")
	if j, _, e := Open(d, "j"); j != nil || e != api.ErrHalt {
		t.Errorf("P17.2: Scan's error: %d", e)
	}
	if after, _ := d.Read("j"); !bytes.Equal(before, after) {
		t.Error("R4: an error changes the file")
	}
	j, _, _ := Open(d, "k")
	if j.Append(make([]byte, 65537)) != api.ErrLong || j.Append(make([]byte, 49)) != api.ErrFull || j.Cells() != 0 || j.Append(nil) != api.OK || j.Cells() != 1 {
		t.Error("P17.2: Append's errors")
	}
	j, _, e := Open(d, "Wrong")
	if e != api.OK || j.Append(nil) != api.ErrName {
		t.Errorf("P17.2: a wrong name: %d", e)
	}
	j = nil
	if j.Append(nil) != api.ErrNil || j.Sync() != api.ErrNil || j.Cells() != 0 {
		t.Error("R7: nil")
	}
	var zero Journal
	zero.Append(nil)
	zero.Sync()
}

func TestExamples(t *testing.T) {
	if len(laid(t, 0, make([]byte, 49))) != 2*Cell || Head != 16 {
		t.Error("example: a record of 49 bytes")
	}
}
