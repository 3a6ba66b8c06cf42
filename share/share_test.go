package share

import (
	"bytes"
	"slices"
	"strings"
	"testing"

	"tallyman/api"
	"tallyman/circuit"
	"tallyman/field"
	"tallyman/proof"
	"tallyman/xof"
)

var (
	id     = api.Id{1, 15: 9}
	random = Random{Helper: api.Seed{1}, First: api.Seed{2}, Second: api.Seed{3}, Prove: api.Seed{4}}
)

func count(f field.Field) Task {
	return Task{Circuit: circuit.Circuit{Kind: circuit.Count, Field: f}, Proofs: 1, Tag: "count"}
}

func histogram(f field.Field, proofs int) Task {
	return Task{Circuit: circuit.Circuit{Kind: circuit.Histogram, Field: f, Length: 5, Chunk: 2}, Proofs: proofs, Tag: "histogram"}
}

// tasks are some, and a measure of each.
func tasks() map[*Task]circuit.Measure {
	m := map[*Task]circuit.Measure{}
	for _, f := range []field.Field{field.Small, field.Large} {
		for proofs := 1; proofs <= 3; proofs++ {
			m[&Task{circuit.Circuit{Kind: circuit.Count, Field: f}, proofs, ""}] = circuit.Measure{1}
			m[&Task{circuit.Circuit{Kind: circuit.Sum, Field: f, Bits: 5}, proofs, strings.Repeat("t", 32)}] = circuit.Measure{21}
			m[&Task{circuit.Circuit{Kind: circuit.SumVec, Field: f, Bits: 2, Length: 3, Chunk: 4}, proofs, "v"}] = circuit.Measure{1, 2, 3}
			m[&Task{circuit.Circuit{Kind: circuit.Multihot, Field: f, Length: 4, Weight: 2, Chunk: 3}, proofs, "m"}] = circuit.Measure{1, 0, 0, 1}
			h := histogram(f, proofs)
			m[&h] = circuit.Measure{3}
		}
	}
	return m
}

func TestCheck(t *testing.T) {
	for task := range tasks() {
		if e := task.Check(); e != api.OK || task.Joint() != (task.Circuit.Kind != circuit.Count) {
			t.Errorf("P13.1: Check of %v: %d", task, e)
		}
	}
	for _, c := range []struct {
		t    Task
		want api.Errno
	}{
		{Task{}, api.ErrField}, {Task{Circuit: circuit.Circuit{Field: field.Small}}, api.ErrKind}, {Task{Circuit: count(field.Small).Circuit}, api.ErrRange},
		{Task{Circuit: count(field.Small).Circuit, Proofs: -1}, api.ErrRange}, {Task{Circuit: count(field.Small).Circuit, Proofs: 4}, api.ErrRange},
		{Task{Circuit: count(field.Small).Circuit, Proofs: 1, Tag: strings.Repeat("t", 33)}, api.ErrRange},
	} {
		_, e1 := c.t.HelperIn(nil, Helper{})
		_, e2 := c.t.HelperProof(nil, Helper{})
		_, e3 := c.t.JointOf(nil, api.Seed{})
		_, e4 := c.t.Points(nil, api.Seed{}, id)
		_, _, _, e5 := c.t.Shard(nil, id, nil, random)
		_, _, _, e6 := c.t.ShardVector(nil, id, nil, random)
		_, e7 := c.t.TakeLeader(nil)
		for i, e := range []api.Errno{c.t.Check(), e1, e2, e3, e4, e5, e6, e7} {
			if e != c.want {
				t.Errorf("P13.1: %v: call %d: %d", c.t, i, e)
			}
		}
		c.t.Part(xof.Real(), 0, api.Seed{}, id, []api.Elem{{1}})
		c.t.PutPublic(Public{})
		c.t.PutLeader(Leader{In: []api.Elem{{1}}})
		c.t.PutHelper(Helper{})
		if c.t.Joint() {
			t.Error("P13.1: Joint of what isn't right")
		}
	}
}

func TestNoSource(t *testing.T) {
	task := histogram(field.Small, 2)
	_, e1 := task.HelperIn(nil, Helper{})
	_, e2 := task.HelperProof(nil, Helper{})
	_, e3 := task.JointOf(nil, api.Seed{})
	_, e4 := task.Points(nil, api.Seed{}, id)
	_, _, _, e5 := task.ShardVector(nil, id, nil, random)
	_, _, _, e6 := task.Shard(nil, id, circuit.Measure{0}, random)
	_, _, _, e7 := task.Shard(nil, id, circuit.Measure{9}, random)
	if e1 != api.ErrNil || e2 != api.ErrNil || e3 != api.ErrNil || e4 != api.ErrNil || e5 != api.ErrNil || e6 != api.ErrNil || e7 != api.ErrRange {
		t.Errorf("P13.1, P13.2: no source: %d, %d, %d, %d, %d, %d, %d", e1, e2, e3, e4, e5, e6, e7)
	}
	if task.Part(nil, 0, api.Seed{}, id, nil) != (api.Seed{}) || task.JointSeed(nil, [2]api.Seed{}) != (api.Seed{}) {
		t.Error("P13.1: Part and JointSeed of no source")
	}
}

func TestStreams(t *testing.T) {
	s := xof.Real()
	for task := range tasks() {
		c, n := task.Circuit, byte(task.Proofs)
		h := Helper{Seed: api.Seed{7}}
		want := func(use xof.Usage, seed api.Seed, many int, binder ...byte) []api.Elem {
			l, e := s.Expand(c.Field, task.Tag, use, seed, binder, many)
			if e != api.OK {
				t.Fatal(e)
			}
			return l
		}
		if l, e := task.HelperIn(s, h); e != api.OK || !slices.Equal(l, want(xof.ForShare, h.Seed, c.In(), 1)) {
			t.Errorf("P13.1: HelperIn of %v", task)
		}
		if l, e := task.HelperProof(s, h); e != api.OK || !slices.Equal(l, want(xof.ForHelperProof, h.Seed, c.Proof()*task.Proofs, n, 1)) {
			t.Errorf("P13.1: HelperProof of %v", task)
		}
		if l, e := task.Points(s, h.Seed, id); e != api.OK || !slices.Equal(l, want(xof.ForQuery, h.Seed, task.Proofs, append([]byte{n}, id[:]...)...)) {
			t.Errorf("P13.1: Points of %v", task)
		}
		joint, e := task.JointOf(s, h.Seed)
		if e != api.OK || len(joint) != task.Proofs || !slices.Equal(slices.Concat(joint...), want(xof.ForJoint, h.Seed, c.Joint()*task.Proofs, n)) {
			t.Errorf("P13.1: JointOf of %v", task)
		}
		for _, l := range joint {
			if len(l) != c.Joint() || cap(l) != len(l) {
				t.Errorf("P13.1: JointOf of %v: %d elements, room for %d", task, len(l), cap(l))
			}
		}
		in := []api.Elem{{1}, {2}}
		if task.Part(s, 1, h.Seed, id, in) != s.Seed(task.Tag, xof.ForJointPart, h.Seed, slices.Concat([]byte{1}, id[:], c.Field.Vec(in))) {
			t.Errorf("P13.1: Part of %v", task)
		}
		if task.JointSeed(s, [2]api.Seed{{1}, {2}}) != s.Seed(task.Tag, xof.ForJointSeed, api.Seed{}, append([]byte{1: 0, 0: 1, 15: 0, 16: 2}, make([]byte, 15)...)) {
			t.Errorf("P13.1: JointSeed of %v", task)
		}
	}
}

func TestShard(t *testing.T) {
	s := xof.Real()
	for task, m := range tasks() {
		c, f := task.Circuit, task.Circuit.Field
		in, _ := c.Encode(m)
		p, l, h, e := task.Shard(s, id, m, random)
		if e != api.OK || h.Seed != random.Helper {
			t.Fatalf("P13.2: Shard of %v: %d", task, e)
		}
		helperIn, _ := task.HelperIn(s, h)
		helperProof, _ := task.HelperProof(s, h)
		whole, _ := f.AddVec(l.In, helperIn)
		proofs, _ := f.AddVec(l.Proof, helperProof)
		if !slices.Equal(whole, in) {
			t.Errorf("P13.2: the shares of %v", task)
		}
		joint := make([][]api.Elem, task.Proofs)
		if task.Joint() {
			parts := [2]api.Seed{task.Part(s, 0, random.First, id, l.In), task.Part(s, 1, random.Second, id, helperIn)}
			if l.Blind != random.First || h.Blind != random.Second || p.Parts != parts {
				t.Errorf("P13.2: what hides %v", task)
			}
			joint, _ = task.JointOf(s, task.JointSeed(s, parts))
		} else if l.Blind != (api.Seed{}) || h.Blind != (api.Seed{}) || p != (Public{}) {
			t.Errorf("P13.2: without joint randomness: %v", task)
		}
		arity := c.Gadget().Arity()
		seeds, _ := s.Expand(f, task.Tag, xof.ForProve, random.Prove, []byte{byte(task.Proofs)}, arity*task.Proofs)
		var want []api.Elem
		for i := range task.Proofs {
			one, _ := proof.Prove(c, in, seeds[i*arity:(i+1)*arity], joint[i])
			want = append(want, one...)
		}
		if !slices.Equal(proofs, want) {
			t.Errorf("P13.2: the proofs of %v", task)
		}
	}
}

func TestShardErrors(t *testing.T) {
	task := histogram(field.Small, 1)
	s := xof.Real()
	if _, _, _, e := task.Shard(s, id, nil, random); e != api.ErrSize {
		t.Errorf("P13.2: Shard of nothing: %d", e)
	}
	for _, many := range []int{0, 4, 6} {
		if _, _, _, e := task.ShardVector(s, id, make([]api.Elem, many), random); e != api.ErrSize {
			t.Errorf("P13.2: ShardVector of %d: %d", many, e)
		}
	}
	if _, l, _, e := task.ShardVector(s, id, []api.Elem{{9}, {9}, {9}, {9}, {9}}, random); e != api.OK || len(l.In) != 5 {
		t.Errorf("P13.2: ShardVector of a wrong vector: %d", e)
	}
	p, l, h, e := task.Shard(xof.Oracle(bytes.Repeat([]byte{255}, 600)), id, circuit.Measure{0}, random)
	if e != api.ErrOther || p != (Public{}) || h != (Helper{}) || l.In != nil || l.Proof != nil || l.Blind != (api.Seed{}) {
		t.Errorf("P13.2: ShardVector of a bad stream: %d", e)
	}
}

// Questions are asked in the order in which the chapter tells them.
func TestOrderOfQuestions(t *testing.T) {
	task := histogram(field.Small, 2)
	s := xof.Oracle(nil)
	if _, _, _, e := task.Shard(s, id, circuit.Measure{1}, random); e != api.OK {
		t.Fatal(e)
	}
	asked, _ := s.Asked()
	var uses []byte
	for _, q := range asked {
		uses = append(uses, q[1+len(task.Tag)])
	}
	if !bytes.Equal(uses, []byte{1, 3, 3, 4, 5, 6, 2}) {
		t.Errorf("P13.2: asked for %v", uses)
	}
}

func TestBytes(t *testing.T) {
	s := xof.Real()
	for task, m := range tasks() {
		p, l, h, _ := task.Shard(s, id, m, random)
		pb, lb, hb := task.PutPublic(p), task.PutLeader(l), task.PutHelper(h)
		f := task.Circuit.Field
		want := [3]int{0, (task.Circuit.In() + task.Circuit.Proof()*task.Proofs) * f.Size(), 16}
		if task.Joint() {
			want = [3]int{32, want[1] + 16, 32}
			if !bytes.Equal(pb, slices.Concat(p.Parts[0][:], p.Parts[1][:])) || !bytes.Equal(hb, slices.Concat(h.Seed[:], h.Blind[:])) {
				t.Errorf("P13.3: bytes of %v", task)
			}
		}
		if [3]int{len(pb), len(lb), len(hb)} != want || !bytes.Equal(lb, slices.Concat(f.Vec(l.In), f.Vec(l.Proof), l.Blind[:want[0]/2])) {
			t.Errorf("P13.3: %v: %d, %d, %d bytes", task, len(pb), len(lb), len(hb))
		}
		p2, e1 := task.TakePublic(pb)
		l2, e2 := task.TakeLeader(lb)
		h2, e3 := task.TakeHelper(hb)
		if e1 != api.OK || e2 != api.OK || e3 != api.OK || p2 != p || h2 != h || !slices.Equal(l2.In, l.In) || !slices.Equal(l2.Proof, l.Proof) || l2.Blind != l.Blind {
			t.Errorf("P13.3: back: %v: %d, %d, %d", task, e1, e2, e3)
		}
		_, e1 = task.TakePublic(append(pb, 0))
		_, e2 = task.TakeLeader(append(lb, 0))
		_, e3 = task.TakeHelper(append(hb, 0))
		if e1 != api.ErrRest || e2 != api.ErrRest || e3 != api.ErrRest {
			t.Errorf("P13.3: too long: %v: %d, %d, %d", task, e1, e2, e3)
		}
		_, e2 = task.TakeLeader(lb[1:])
		_, e3 = task.TakeHelper(hb[1:])
		if e2 != api.ErrShort || e3 != api.ErrShort {
			t.Errorf("P13.3: too short: %v: %d, %d", task, e2, e3)
		}
		if task.Joint() {
			if p, e := task.TakePublic(pb[1:]); e != api.ErrShort || p != (Public{}) {
				t.Errorf("P13.3: too short: %v: %d", task, e)
			}
		}
		for _, at := range []int{0, task.Circuit.In() * f.Size()} {
			wrong := slices.Clone(lb)
			copy(wrong[at:], bytes.Repeat([]byte{255}, f.Size()))
			if l, e := task.TakeLeader(wrong); e != api.ErrField || l.In != nil || l.Proof != nil || l.Blind != (api.Seed{}) {
				t.Errorf("P13.3: no elements: %v: %d", task, e)
			}
			if _, e := task.TakeLeader(append(wrong, 0)); e != api.ErrRest {
				t.Errorf("R2: pack's errors ahead of field's: %d", e)
			}
		}
	}
}

func TestExamples(t *testing.T) {
	task := count(field.Small)
	_, l, _, e := task.Shard(xof.Real(), id, circuit.Measure{1}, random)
	if e != api.OK || len(task.PutLeader(l)) != 48 {
		t.Errorf("example: %d bytes, %d", len(task.PutLeader(l)), e)
	}
}
