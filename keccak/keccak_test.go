package keccak

import (
	"bytes"
	"encoding/hex"
	"math/bits"
	"testing"
)

// pattern is the bytes 0 to 250, over and over.
func pattern(many int) []byte {
	b := make([]byte, many)
	for i := range b {
		b[i] = byte(i % 251)
	}
	return b
}

// Answers that others have published of the same sponge.
func TestPublishedAnswers(t *testing.T) {
	for _, c := range []struct {
		domain byte
		in     []byte
		want   string
	}{
		{0x1f, nil, "1e415f1c5983aff2169217277d17bb538cd945a397ddec541f1ce41af2c1b74c"},
		{0x1f, pattern(1), "55cedd6f60af7bb29a4042ae832ef3f58db7299f893ebb9247247d856958daa9"},
		{0x1f, pattern(17), "9c97d036a3bac819db70ede0ca554ec6e4c2a1a4ffbfd9ec269ca6a111161233"},
		{0x1f, pattern(17 * 17), "96c77c279e0126f7fc07c9b07f5cdae1e0be60bdbe10620040e75d7223a624d2"},
		{0x01, []byte{0xff, 0xff, 0xff}, "bf323f940494e88ee1c540fe660be8a0c93f43d15ec006998462fa994eed5dab"},
		{0x06, []byte{0xff}, "8ec9c66465ed0d4a6c35d13506718d687a25cb05c74cca1e42501abd83874a67"},
	} {
		if got := hex.EncodeToString(Hash(c.domain, c.in, 32)); got != c.want {
			t.Errorf("P6.2: Hash(%d, %d bytes) = %s", c.domain, len(c.in), got)
		}
	}
}

// slow is one round after another as the chapter tells it.
func slow(s State) State {
	constants := []uint64{0x8000808b, 0x800000000000008b, 0x8000000000008089, 0x8000000000008003, 0x8000000000008002, 0x8000000000000080, 0x800a, 0x800000008000000a, 0x8000000080008081, 0x8000000000008080, 0x80000001, 0x8000000080008008}
	turns := [5][5]int{{0, 1, 62, 28, 27}, {36, 44, 6, 55, 20}, {3, 10, 43, 25, 39}, {41, 45, 15, 21, 8}, {18, 2, 61, 56, 14}}
	for _, constant := range constants {
		var a, b [5][5]uint64
		for x := range 5 {
			for y := range 5 {
				a[x][y] = s[x+5*y]
				for row := range 5 {
					a[x][y] ^= s[(x+4)%5+5*row] ^ bits.RotateLeft64(s[(x+1)%5+5*row], 1)
				}
			}
		}
		for x := range 5 {
			for y := range 5 {
				b[y][(2*x+3*y)%5] = bits.RotateLeft64(a[x][y], turns[y][x])
			}
		}
		for x := range 5 {
			for y := range 5 {
				s[x+5*y] = b[x][y] ^ ^b[(x+1)%5][y]&b[(x+2)%5][y]
			}
		}
		s[0] ^= constant
	}
	return s
}

func TestPermute(t *testing.T) {
	var s State
	for range 5 {
		want := slow(s)
		s.Permute()
		if s != want || s == (State{}) {
			t.Fatalf("P6.1: Permute: %x", s)
		}
	}
	var none *State
	none.Permute()
}

func TestDomains(t *testing.T) {
	for d := range 256 {
		k := New(byte(d))
		if (k != nil) != (d >= 1 && d <= 127) {
			t.Errorf("P6.2: New(%d)", d)
		}
		if (len(Hash(byte(d), []byte{1}, 5)) == 5) != (k != nil) {
			t.Errorf("P6.2: Hash of domain %d", d)
		}
	}
	if bytes.Equal(Hash(1, nil, 16), Hash(2, nil, 16)) {
		t.Error("P6.2: the domain says nothing")
	}
}

func TestPiecesAreAsTheWhole(t *testing.T) {
	for _, many := range []int{0, 1, 7, 8, 167, 168, 169, 335, 336, 337, 1000} {
		in := pattern(many)
		want := Hash(5, in, 500)
		k := New(5)
		for i := 0; i < many; i += 13 {
			k.Write(in[i:min(i+13, many)]...)
		}
		var got []byte
		for _, n := range []int{0, 1, 166, 1, 1, 168, 163} {
			got = append(got, k.Read(n)...)
		}
		if !bytes.Equal(got, want) {
			t.Errorf("P6.2: %d bytes by pieces", many)
		}
	}
}

func TestWriteBehindRead(t *testing.T) {
	k := New(3)
	k.Write(1, 2)
	if k.Read(-1) != nil {
		t.Error("P6.2: Read below 0")
	}
	k.Write(3)
	if len(k.Read(0)) != 0 {
		t.Error("P6.2: Read of 0")
	}
	k.Write(4)
	if !bytes.Equal(k.Read(20), Hash(3, []byte{1, 2, 3}, 20)) {
		t.Error("P6.2: Write behind a Read of below 0 counts, behind one of 0 not")
	}
}

func TestHowManyAtMost(t *testing.T) {
	if len(Hash(1, nil, 65536)) != 65536 || len(Hash(1, nil, 65537)) != 65536 || len(Hash(1, nil, 1<<63-1)) != 65536 {
		t.Error("P6.2: 65536 at most")
	}
	k := New(1)
	first := k.Read(1 << 40)
	second := k.Read(10)
	if bytes.Equal(first[:10], second) || !bytes.Equal(first, Hash(1, nil, 65536)) {
		t.Error("P6.2: reading goes on behind 65536")
	}
}

func TestNoSponge(t *testing.T) {
	var k *Sponge
	k.Write(1)
	if k.Read(3) != nil {
		t.Error("R7: nil")
	}
}

func TestExamples(t *testing.T) {
	if len(Hash(1, nil, 0)) != 0 {
		t.Error("example: nothing")
	}
}
