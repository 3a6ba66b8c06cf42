package prep

import (
	"bytes"
	"slices"
	"testing"

	"tallyman/api"
	"tallyman/circuit"
	"tallyman/field"
	"tallyman/ntt"
	"tallyman/proof"
	"tallyman/share"
	"tallyman/xof"
)

var (
	id     = api.Id{1, 15: 9}
	key    = api.Seed{77}
	random = share.Random{Helper: api.Seed{1}, First: api.Seed{2}, Second: api.Seed{3}, Prove: api.Seed{4}}
)

// example is a task, and a measure of it.
type example struct {
	t share.Task
	m circuit.Measure
}

func examples() []example {
	var l []example
	for _, f := range []field.Field{field.Small, field.Large} {
		for proofs := 1; proofs <= 3; proofs++ {
			l = append(l,
				example{share.Task{Circuit: circuit.Circuit{Kind: circuit.Count, Field: f}, Proofs: proofs}, circuit.Measure{1}},
				example{share.Task{Circuit: circuit.Circuit{Kind: circuit.Sum, Field: f, Bits: 5}, Proofs: proofs, Tag: "s"}, circuit.Measure{21}},
				example{share.Task{Circuit: circuit.Circuit{Kind: circuit.SumVec, Field: f, Bits: 2, Length: 3, Chunk: 4}, Proofs: proofs, Tag: "v"}, circuit.Measure{1, 2, 3}},
				example{share.Task{Circuit: circuit.Circuit{Kind: circuit.Histogram, Field: f, Length: 5, Chunk: 2}, Proofs: proofs, Tag: "h"}, circuit.Measure{3}},
				example{share.Task{Circuit: circuit.Circuit{Kind: circuit.Multihot, Field: f, Length: 4, Weight: 2, Chunk: 3}, Proofs: proofs, Tag: "m"}, circuit.Measure{1, 0, 0, 1}},
			)
		}
	}
	return l
}

// looked is what both make of a report.
func looked(t *testing.T, x share.Task, p share.Public, l share.Leader, h share.Helper) (a, b Share, sa, sb State) {
	t.Helper()
	s := xof.Real()
	sa, a, e1 := Leader(x, s, key, id, p, l)
	sb, b, e2 := Helper(x, s, key, id, p, h)
	if e1 != api.OK || e2 != api.OK {
		t.Fatalf("P14.1: %v: %d, %d", x, e1, e2)
	}
	return a, b, sa, sb
}

func TestHonestReports(t *testing.T) {
	s := xof.Real()
	for _, x := range examples() {
		p, l, h, _ := x.t.Shard(s, id, x.m, random)
		a, b, sa, sb := looked(t, x.t, p, l, h)
		m, e := Both(x.t, s, a, b)
		if e != api.OK || x.t.Joint() != (m != Message{}) {
			t.Fatalf("P14.4: Both of %v: %d", x.t, e)
		}
		outA, e1 := Next(x.t, sa, m)
		outB, e2 := Next(x.t, sb, m)
		sum, _ := x.t.Circuit.Field.AddVec(outA, outB)
		in, _ := x.t.Circuit.Encode(x.m)
		want, _ := x.t.Circuit.Truncate(in)
		if e1 != api.OK || e2 != api.OK || !slices.Equal(sum, want) {
			t.Errorf("P14.4: the sum of %v: %v, %d, %d", x.t, sum, e1, e2)
		}
		if len(outA) > 0 {
			outA[0][0]++
			if again, _ := Next(x.t, sa, m); slices.Equal(again, outA) {
				t.Error("R6: Next shares memory")
			}
		}
	}
}

// What Leader and Helper say, by what the chapter tells.
func TestBeginIsTold(t *testing.T) {
	s := xof.Real()
	for _, x := range examples() {
		c := x.t.Circuit
		p, l, h, _ := x.t.Shard(s, id, x.m, random)
		// Of what both are told one's own part is never taken.
		told := p
		told.Parts[0] = api.Seed{99}
		sa, a, e := Leader(x.t, s, key, id, told, l)
		joint := make([][]api.Elem, x.t.Proofs)
		if x.t.Joint() {
			seed := x.t.JointSeed(s, p.Parts)
			joint, _ = x.t.JointOf(s, seed)
			if a.Part != p.Parts[0] || a.Joint != seed || sa.Joint != seed {
				t.Errorf("P14.1: joint randomness of %v", x.t)
			}
		} else if a.Part != (api.Seed{}) || a.Joint != (api.Seed{}) || sa.Joint != (api.Seed{}) {
			t.Errorf("P14.1: without joint randomness: %v", x.t)
		}
		points, _ := x.t.Points(s, key, id)
		var want []api.Elem
		for i, point := range points {
			v, _ := proof.Query(c, l.In, l.Proof[i*c.Proof():(i+1)*c.Proof()], joint[i], point, 2)
			want = append(want, v...)
		}
		out, _ := c.Truncate(l.In)
		if e != api.OK || !slices.Equal(a.Verifiers, want) || !slices.Equal(sa.Out, out) {
			t.Errorf("P14.1: Leader of %v: %d", x.t, e)
		}
		told = p
		told.Parts[1] = api.Seed{99}
		if _, b, e := Helper(x.t, s, key, id, told, h); e != api.OK || b.Part != p.Parts[1] || b.Joint != a.Joint {
			t.Errorf("P14.1: Helper of %v: %d", x.t, e)
		}
	}
}

func TestWrongReports(t *testing.T) {
	s := xof.Real()
	for _, x := range examples() {
		in, _ := x.t.Circuit.Encode(x.m)
		in[len(in)-1] = api.Elem{2}
		p, l, h, e := x.t.ShardVector(s, id, in, random)
		if e != api.OK {
			t.Fatal(e)
		}
		a, b, _, _ := looked(t, x.t, p, l, h)
		if m, e := Both(x.t, s, a, b); e != api.ErrProof || m != (Message{}) {
			t.Errorf("P14.2: a wrong report of %v: %d", x.t, e)
		}
		p, l, h, _ = x.t.Shard(s, id, x.m, random)
		l.Proof[len(l.Proof)-1] = x.t.Circuit.Field.Add(l.Proof[len(l.Proof)-1], api.Elem{1})
		a, b, _, _ = looked(t, x.t, p, l, h)
		if _, e := Both(x.t, s, a, b); e != api.ErrProof {
			t.Errorf("P14.2: the last proof of %v is wrong: %d", x.t, e)
		}
	}
}

func TestJointIsLookedAt(t *testing.T) {
	s := xof.Real()
	for _, x := range examples() {
		p, l, h, _ := x.t.Shard(s, id, x.m, random)
		a, b, sa, _ := looked(t, x.t, p, l, h)
		for i := range 4 {
			c, d := a, b
			*[]*api.Seed{&c.Joint, &d.Joint, &c.Part, &d.Part}[i] = api.Seed{99}
			want := api.OK
			if x.t.Joint() {
				want = api.ErrJoint
			}
			if m, e := Both(x.t, s, c, d); e != want || e != api.OK && m != (Message{}) {
				t.Errorf("P14.2: Both of %v: %d", x.t, e)
			}
			if out, e := Next(x.t, sa, Message{api.Seed{98}}); e != want || (out == nil) != (e != api.OK) {
				t.Errorf("P14.2: Next of %v: %d", x.t, e)
			}
		}
	}
}

func TestErrors(t *testing.T) {
	s := xof.Real()
	wrong := share.Task{Circuit: circuit.Circuit{Kind: circuit.Count, Field: field.Small}}
	_, _, e1 := Leader(wrong, nil, key, id, share.Public{}, share.Leader{})
	_, _, e2 := Helper(wrong, nil, key, id, share.Public{}, share.Helper{})
	_, e3 := Both(wrong, nil, Share{}, Share{})
	_, e4 := TakeShare(wrong, nil)
	if e1 != api.ErrRange || e2 != api.ErrRange || e3 != api.ErrRange || e4 != api.ErrRange {
		t.Errorf("P14.1 to P14.3: a wrong task: %d, %d, %d, %d", e1, e2, e3, e4)
	}
	PutShare(share.Task{}, Share{Verifiers: []api.Elem{{1}}})
	for _, x := range examples() {
		p, l, h, _ := x.t.Shard(s, id, x.m, random)
		a, b, _, _ := looked(t, x.t, p, l, h)
		_, _, e1 = Leader(x.t, nil, key, id, p, share.Leader{})
		_, _, e2 = Helper(x.t, nil, key, id, p, h)
		_, e3 = Both(x.t, nil, Share{}, Share{})
		if e1 != api.ErrNil || e2 != api.ErrNil || e3 != api.ErrNil {
			t.Errorf("P14.1, P14.2: no source: %d, %d, %d", e1, e2, e3)
		}
		_, _, e1 = Leader(x.t, s, key, id, p, share.Leader{In: l.In[1:], Proof: l.Proof})
		_, _, e2 = Leader(x.t, s, key, id, p, share.Leader{In: l.In, Proof: l.Proof[1:]})
		_, e3 = Both(x.t, s, Share{Verifiers: a.Verifiers[1:]}, b)
		_, e4 = Both(x.t, s, a, Share{})
		if e1 != api.ErrSize || e2 != api.ErrSize || e3 != api.ErrSize || e4 != api.ErrSize {
			t.Errorf("P14.1, P14.2: ErrSize: %d, %d, %d, %d", e1, e2, e3, e4)
		}
	}
}

// A point of the domain is drawn: both say so.
func TestPointOfTheDomain(t *testing.T) {
	x := examples()[0]
	c := x.t.Circuit
	log, _ := ntt.Log(c.Domain())
	points, _ := ntt.Points(c.Field, log)
	s := xof.Oracle(c.Field.Bytes(points[1]))
	l := share.Leader{In: make([]api.Elem, c.In()), Proof: make([]api.Elem, c.Proof())}
	if _, a, e := Leader(x.t, s, key, id, share.Public{}, l); e != api.ErrPoint || a.Verifiers != nil {
		t.Errorf("P14.1: Leader at a point: %d", e)
	}
	if st, _, e := Helper(x.t, s, key, id, share.Public{}, share.Helper{}); e != api.ErrPoint || st.Out != nil {
		t.Errorf("P14.1: Helper at a point: %d", e)
	}
}

func TestBytes(t *testing.T) {
	s := xof.Real()
	for _, x := range examples() {
		f := x.t.Circuit.Field
		p, l, h, _ := x.t.Shard(s, id, x.m, random)
		a, b, _, _ := looked(t, x.t, p, l, h)
		m, _ := Both(x.t, s, a, b)
		ab, mb := PutShare(x.t, a), PutMessage(x.t, m)
		want, wantMessage := f.Vec(a.Verifiers), []byte{}
		if x.t.Joint() {
			want, wantMessage = slices.Concat(want, a.Part[:], a.Joint[:]), m.Joint[:]
		}
		if !bytes.Equal(ab, want) || !bytes.Equal(mb, wantMessage) {
			t.Errorf("P14.3: bytes of %v", x.t)
		}
		a2, e1 := TakeShare(x.t, ab)
		m2, e2 := TakeMessage(x.t, mb)
		if e1 != api.OK || e2 != api.OK || m2 != m || !slices.Equal(a2.Verifiers, a.Verifiers) || a2.Part != a.Part || a2.Joint != a.Joint {
			t.Errorf("P14.3: back: %d, %d", e1, e2)
		}
		_, e1 = TakeShare(x.t, append(ab, 0))
		_, e2 = TakeMessage(x.t, append(mb, 0))
		_, e3 := TakeShare(x.t, ab[1:])
		if e1 != api.ErrRest || e2 != api.ErrRest || e3 != api.ErrShort {
			t.Errorf("P14.3: wrong lengths: %d, %d, %d", e1, e2, e3)
		}
		if x.t.Joint() {
			if m, e := TakeMessage(x.t, mb[1:]); e != api.ErrShort || m != (Message{}) {
				t.Errorf("P14.3: a short message: %d", e)
			}
		}
		copy(ab, bytes.Repeat([]byte{255}, f.Size()))
		if a, e := TakeShare(x.t, ab); e != api.ErrField || a.Verifiers != nil || a.Part != (api.Seed{}) {
			t.Errorf("P14.3: no elements: %d", e)
		}
		if _, e := TakeShare(x.t, ab[:len(ab)-1]); e != api.ErrShort {
			t.Errorf("R2: pack's errors ahead of field's: %d", e)
		}
	}
}

func TestExamples(t *testing.T) {
	x := examples()[0]
	p, l, h, _ := x.t.Shard(xof.Real(), id, x.m, random)
	a, _, _, _ := looked(t, x.t, p, l, h)
	if len(PutShare(x.t, a)) != 32 {
		t.Errorf("example: %d bytes", len(PutShare(x.t, a)))
	}
}
