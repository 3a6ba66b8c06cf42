package share

import (
	"tallyman/api"
	"tallyman/pack"
)

// putSeed is a seed as bytes, if there is joint randomness.
func (t Task) putSeed(w *pack.Writer, seed api.Seed) {
	if t.Joint() {
		w.Raw(seed[:]...)
	}
}

// takeSeed is back.
func (t Task) takeSeed(r *pack.Reader) api.Seed {
	if !t.Joint() {
		return api.Seed{}
	}
	return r.Seed()
}

// PutPublic: as bytes.
func (t Task) PutPublic(p Public) []byte {
	var w pack.Writer
	for _, part := range p.Parts {
		t.putSeed(&w, part)
	}
	return w.Bytes()
}

// TakePublic: back.
func (t Task) TakePublic(b []byte) (Public, api.Errno) {
	var p Public
	e := pack.Read(b, func(r *pack.Reader) {
		for i := range p.Parts {
			p.Parts[i] = t.takeSeed(r)
		}
	})
	if e != api.OK {
		return Public{}, e
	}
	return p, api.OK
}

// PutLeader: as bytes.
func (t Task) PutLeader(l Leader) []byte {
	var w pack.Writer
	w.Raw(t.Circuit.Field.Vec(l.In)...)
	w.Raw(t.Circuit.Field.Vec(l.Proof)...)
	t.putSeed(&w, l.Blind)
	return w.Bytes()
}

// TakeLeader: back.
func (t Task) TakeLeader(b []byte) (Leader, api.Errno) {
	if e := t.Check(); e != api.OK {
		return Leader{}, e
	}
	f := t.Circuit.Field
	in, proofs := t.Circuit.In(), t.Proofs*t.Circuit.Proof()
	var l Leader
	var inBytes, proofBytes []byte
	e := pack.Read(b, func(r *pack.Reader) {
		inBytes = r.Raw(in * f.Size())
		proofBytes = r.Raw(proofs * f.Size())
		l.Blind = t.takeSeed(r)
	})
	if e != api.OK {
		return Leader{}, e
	}
	if l.In, e = f.TakeVec(inBytes, in); e != api.OK {
		return Leader{}, e
	}
	if l.Proof, e = f.TakeVec(proofBytes, proofs); e != api.OK {
		return Leader{}, e
	}
	return l, api.OK
}

// PutHelper: as bytes.
func (t Task) PutHelper(h Helper) []byte {
	var w pack.Writer
	w.Raw(h.Seed[:]...)
	t.putSeed(&w, h.Blind)
	return w.Bytes()
}

// TakeHelper: back.
func (t Task) TakeHelper(b []byte) (Helper, api.Errno) {
	var h Helper
	e := pack.Read(b, func(r *pack.Reader) {
		h.Seed = r.Seed()
		h.Blind = t.takeSeed(r)
	})
	if e != api.OK {
		return Helper{}, e
	}
	return h, api.OK
}
