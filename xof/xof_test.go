package xof

import (
	"bytes"
	"slices"
	"strings"
	"testing"

	"tallyman/api"
	"tallyman/field"
	"tallyman/keccak"
)

var seed = api.Seed{1, 2, 3, 15: 9}

func question(tag string, use Usage, seed api.Seed, binder []byte) []byte {
	return slices.Concat([]byte{byte(len(tag))}, []byte(tag), []byte{byte(use), byte(use >> 8)}, seed[:], binder)
}

func TestUses(t *testing.T) {
	if ForShare != 1 || ForHelperProof != 2 || ForJointPart != 3 || ForJointSeed != 4 || ForJoint != 5 || ForProve != 6 || ForQuery != 7 {
		t.Error("the uses' numbers")
	}
}

func TestRealIsTheSponge(t *testing.T) {
	for _, tag := range []string{"", "x", strings.Repeat("t", 255)} {
		for _, binder := range [][]byte{nil, {7}, make([]byte, 65536)} {
			x := Real().Stream(tag, 0x0102, seed, binder)
			want := keccak.Hash(1, question(tag, 0x0102, seed, binder), 400)
			if got := slices.Concat(x.Next(3), x.Next(0), x.Next(397)); !bytes.Equal(got, want) {
				t.Errorf("P7.1: a real stream of tag %q, %d bytes", tag, len(binder))
			}
		}
	}
	if asked, taken := Real().Asked(); asked != nil || taken != 0 {
		t.Error("P7.1: Asked of a real source")
	}
}

func TestWhatIsTooLong(t *testing.T) {
	for _, s := range []*Source{Real(), Oracle(nil)} {
		if s.Stream(strings.Repeat("t", 256), ForShare, seed, nil) != nil || s.Stream("", ForShare, seed, make([]byte, 65537)) != nil {
			t.Error("P7.1: too long a tag, or binder")
		}
		if s.Seed(strings.Repeat("t", 256), ForShare, seed, nil) != (api.Seed{}) {
			t.Error("P7.2: Seed of no stream")
		}
		if _, e := s.Expand(field.Small, "", ForShare, seed, make([]byte, 65537), 1); e != api.ErrNil {
			t.Errorf("P7.2: Expand of no stream: %d", e)
		}
		if asked, _ := s.Asked(); len(asked) != 0 {
			t.Error("P7.1: no stream, no question")
		}
	}
}

func TestOracle(t *testing.T) {
	draws := []byte{1, 2, 3, 4, 5}
	s := Oracle(draws)
	draws[0] = 99
	a, b := s.Stream("a", ForShare, seed, nil), s.Stream("b", ForShare, seed, nil)
	if !bytes.Equal(b.Next(1), []byte{1}) || !bytes.Equal(a.Next(2), []byte{2, 3}) || !bytes.Equal(b.Next(1), []byte{4}) {
		t.Error("P7.1: draws in the order in which they are wanted")
	}
	again := s.Stream("a", ForShare, seed, nil)
	got := again.Next(4)
	if !bytes.Equal(got, []byte{2, 3, 5, 0}) {
		t.Errorf("P7.1: again from the beginning: %v", got)
	}
	got[0] = 77
	if !bytes.Equal(a.Next(3), []byte{5, 0, 0}) || s.Stream("a", ForShare, seed, nil).Next(1)[0] != 2 {
		t.Error("P7.1: two streams of one question, R6")
	}
	asked, taken := s.Asked()
	want := []string{string(question("a", ForShare, seed, nil)), string(question("b", ForShare, seed, nil))}
	if !slices.Equal(asked, want) || taken != 7 {
		t.Errorf("P7.1: Asked: %q, %d", asked, taken)
	}
	asked[0] = ""
	if again, _ := s.Asked(); again[0] != want[0] {
		t.Error("R6: Asked shares memory")
	}
}

func TestQuestionsAreTold(t *testing.T) {
	s := Oracle(nil)
	s.Seed("t", ForJoint, seed, []byte{1})
	s.Seed("t", ForProve, seed, []byte{1})
	s.Seed("t", ForJoint, api.Seed{}, []byte{1})
	s.Seed("t", ForJoint, seed, nil)
	s.Seed("t", ForJoint, seed, []byte{1})
	if asked, taken := s.Asked(); len(asked) != 4 || taken != 64 {
		t.Errorf("P7.1: %d questions, %d draws", len(asked), taken)
	}
	if _, e := s.Expand(9, "new", ForJoint, seed, nil, 1); e != api.ErrKind {
		t.Errorf("P7.2: Expand: %d", e)
	}
	if asked, _ := s.Asked(); len(asked) != 5 {
		t.Error("P7.1: a question is asked when its stream is made")
	}
}

func TestNextAndSeed(t *testing.T) {
	x := Real().Stream("t", ForQuery, seed, nil)
	for _, many := range []int{-1, 65537, 1<<63 - 1, -1 << 63} {
		if x.Next(many) != nil {
			t.Errorf("P7.2: Next(%d)", many)
		}
	}
	want := keccak.Hash(1, question("t", ForQuery, seed, nil), 40)
	first := x.Seed()
	if !bytes.Equal(first[:], want[:16]) || !bytes.Equal(x.Next(4), want[16:20]) {
		t.Error("P7.2: Seed is the next sixteen")
	}
	if Real().Seed("t", ForQuery, seed, nil) != first {
		t.Error("P7.2: Seed of a source")
	}
	if len(x.Next(65536)) != 65536 {
		t.Error("P7.2: Next(65536)")
	}
}

func TestVec(t *testing.T) {
	none := bytes.Repeat([]byte{255}, 8)
	draws := slices.Concat([]byte{5, 0, 0, 0, 0, 0, 0, 0}, none, none, []byte{1, 1, 0, 0, 0, 0, 0, 0}, none, []byte{7})
	x := Oracle(draws).Stream("", ForShare, seed, nil)
	if l, e := x.Vec(field.Small, 2); e != api.OK || !slices.Equal(l, []api.Elem{{5}, {257}}) || x.Skipped() != 2 {
		t.Errorf("P7.2: Vec: %v, %d, %d passed over", l, e, x.Skipped())
	}
	if l, e := x.Vec(field.Large, 1); e != api.OK || l[0] != (api.Elem{1<<64 - 1, 7}) || x.Skipped() != 2 {
		t.Errorf("P7.2: Vec of Large: %v, %d", l, e)
	}
	for _, f := range []field.Field{field.Small, field.Large} {
		want, e := f.TakeVec(keccak.Hash(1, question("t", ForJoint, seed, nil), 16*f.Size()), 16)
		got, e2 := Real().Expand(f, "t", ForJoint, seed, nil, 16)
		if e != api.OK || e2 != api.OK || !slices.Equal(got, want) {
			t.Errorf("P7.2: Expand: %d, %d", e, e2)
		}
		if l, e := Real().Expand(f, "t", ForJoint, seed, nil, 4096); e != api.OK || len(l) != 4096 {
			t.Errorf("P7.2: Expand of 4096: %d", e)
		}
		for _, many := range []int{-1, 4097} {
			if l, e := Real().Expand(f, "t", ForJoint, seed, nil, many); e != api.ErrRange || l != nil {
				t.Errorf("P7.2: Expand of %d: %d", many, e)
			}
		}
	}
	if _, e := Real().Expand(0, "t", ForJoint, seed, nil, -1); e != api.ErrKind {
		t.Errorf("P7.2: Expand of no field: %d", e)
	}
}

func TestVecGivesUp(t *testing.T) {
	most := bytes.Repeat([]byte{255}, 63*8)
	x := Oracle(slices.Concat(most, make([]byte, 8), most, make([]byte, 8))).Stream("", ForShare, seed, nil)
	if l, e := x.Vec(field.Small, 2); e != api.OK || len(l) != 2 || x.Skipped() != 126 {
		t.Errorf("P7.2: 63 are passed over: %d, %d", e, x.Skipped())
	}
	draws := slices.Concat(make([]byte, 8), bytes.Repeat([]byte{255}, 64*8), []byte{3})
	s := Oracle(draws)
	x = s.Stream("", ForShare, seed, nil)
	if l, e := x.Vec(field.Small, 5); e != api.ErrOther || l != nil || x.Skipped() != 64 {
		t.Errorf("P7.2: 64 are too many: %d, %d", e, x.Skipped())
	}
	if _, taken := s.Asked(); taken != 65*8 || !bytes.Equal(x.Next(1), []byte{3}) {
		t.Error("P7.2: what was read stays read")
	}
}

func TestNil(t *testing.T) {
	var s *Source
	var x *Stream
	asked, taken := s.Asked()
	if s.Stream("", 1, seed, nil) != nil || s.Seed("", 1, seed, nil) != (api.Seed{}) || asked != nil || taken != 0 {
		t.Error("R7: a nil source")
	}
	if _, e := s.Expand(field.Small, "", 1, seed, nil, 1); e != api.ErrNil {
		t.Error("R7: Expand of a nil source")
	}
	if x.Next(1) != nil || x.Seed() != (api.Seed{}) || x.Skipped() != 0 {
		t.Error("R7: a nil stream")
	}
	if _, e := x.Vec(0, -1); e != api.ErrNil {
		t.Error("R7: Vec of a nil stream")
	}
	new(Stream).Vec(field.Small, 1)
	new(Source).Seed("", 1, seed, nil)
}

func TestExamples(t *testing.T) {
	s := Oracle([]byte{1, 2, 3})
	a := s.Stream("a", 1, api.Seed{}, nil).Next(2)
	b := s.Stream("b", 1, api.Seed{}, nil).Next(1)
	c := s.Stream("a", 1, api.Seed{}, nil).Next(3)
	if !bytes.Equal(a, []byte{1, 2}) || !bytes.Equal(b, []byte{3}) || !bytes.Equal(c, []byte{1, 2, 0}) {
		t.Errorf("example: %v, %v, %v", a, b, c)
	}
}
