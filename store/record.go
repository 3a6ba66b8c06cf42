package store

import (
	"bytes"

	"tallyman/api"
	"tallyman/pack"
	"tallyman/replay"
)

// The kinds of records.
const (
	kindAccept = 1
	kindCommit = 2
	kindReject = 3
	kindClose  = 4
	kindLife   = 5
)

// How many bytes numbers have.
const (
	kindSize = 1
	codeSize = 1
	timeSize = 6
)

// act is what is to be noted: how its record is filled, and what it does. It is made where nothing speaks against it.
type act struct {
	fill func(w *pack.Writer)
	do   func()
}

// note notes an act, then does it; not, if there is an error.
func (s *Store) note(a act, e api.Errno) api.Errno {
	if e != api.OK {
		return e
	}
	var w pack.Writer
	a.fill(&w)
	if e := s.log.Append(w.Bytes()); e != api.OK {
		return e
	}
	a.do()
	return api.OK
}

// again does a record's act once more, without noting it.
func (s *Store) again(record []byte) api.Errno {
	var redo func() (act, api.Errno)
	e := pack.Read(record, func(r *pack.Reader) { redo = s.take(r) })
	if e != api.OK {
		return e
	}
	a, e := redo()
	if e != api.OK {
		return e
	}
	a.do()
	return api.OK
}

// take is what makes a record's act anew, when all of the record was read.
func (s *Store) take(r *pack.Reader) func() (act, api.Errno) {
	switch r.Uint(kindSize) {
	case kindAccept:
		x := Report{Id: r.Id(), Time: r.Uint(timeSize), Public: r.Long(mostPart), Share: r.Long(mostPart)}
		return func() (act, api.Errno) { return s.accepting(x) }
	case kindCommit:
		id, vec, said := r.Id(), r.Long(api.MaxBytes), r.Long(mostPart)
		return func() (act, api.Errno) { return s.committingVec(id, vec, said) }
	case kindReject:
		id, code := r.Id(), api.Errno(r.Uint(codeSize))
		return func() (act, api.Errno) { return s.rejecting(id, code) }
	case kindClose:
		start := r.Uint(timeSize)
		return func() (act, api.Errno) { return s.closing(start) }
	case kindLife:
		life := r.Uint(timeSize)
		return func() (act, api.Errno) { return s.living(life) }
	}
	r.Fail(api.ErrKind)
	return nil
}

// accepting is Accept's act.
func (s *Store) accepting(x Report) (act, api.Errno) {
	if _, is := s.index.Get(x.Id); is {
		return act{}, api.ErrReplay
	}
	if len(x.Public) > mostPart || len(x.Share) > mostPart {
		return act{}, api.ErrLong
	}
	if s.index.Room() == 0 {
		return act{}, api.ErrFull
	}
	if e := s.book.Fits(x.Time); e != api.OK {
		return act{}, e
	}
	fill := func(w *pack.Writer) {
		w.Uint(kindAccept, kindSize)
		w.Raw(x.Id[:]...)
		w.Uint(x.Time, timeSize)
		w.Long(x.Public)
		w.Long(x.Share)
	}
	do := func() {
		s.index.Add(replay.Seen{Id: x.Id, Time: x.Time, Code: api.ErrWait})
		s.waits[x.Id] = x.copied()
	}
	return act{fill, do}, api.OK
}

// committing is Commit's act.
func (s *Store) committing(id api.Id, out []api.Elem, said []byte) (act, api.Errno) {
	x, is := s.waits[id]
	if !is {
		return act{}, api.ErrNone
	}
	if len(out) != s.task.Circuit.Out() || len(said) > mostPart {
		return act{}, api.ErrSize
	}
	for _, a := range out {
		if !s.task.Circuit.Field.In(a) {
			return act{}, api.ErrField
		}
	}
	if e := s.book.Fits(x.Time); e != api.OK {
		return act{}, e
	}
	fill := func(w *pack.Writer) {
		w.Uint(kindCommit, kindSize)
		w.Raw(id[:]...)
		w.Long(s.task.Circuit.Field.Vec(out))
		w.Long(said)
	}
	do := func() {
		s.book.Add(x.Time, id, out)
		s.said[id] = bytes.Clone(said)
		s.settle(id, api.OK)
	}
	return act{fill, do}, api.OK
}

// committingVec is Commit's act, of elements as bytes.
func (s *Store) committingVec(id api.Id, vec, said []byte) (act, api.Errno) {
	out, e := s.task.Circuit.Field.TakeVec(vec, s.task.Circuit.Out())
	if e != api.OK {
		return act{}, e
	}
	return s.committing(id, out, said)
}

// refusal: may a report be refused by a code?
func refusal(code api.Errno) bool {
	return code > api.OK && code <= api.ErrOther && code != api.ErrWait
}

// rejecting is Reject's act.
func (s *Store) rejecting(id api.Id, code api.Errno) (act, api.Errno) {
	if _, is := s.waits[id]; !is {
		return act{}, api.ErrNone
	}
	if !refusal(code) {
		return act{}, api.ErrKind
	}
	fill := func(w *pack.Writer) {
		w.Uint(kindReject, kindSize)
		w.Raw(id[:]...)
		w.Uint(uint64(code), codeSize)
	}
	return act{fill, func() { s.settle(id, code) }}, api.OK
}

// settle ends a report's waiting.
func (s *Store) settle(id api.Id, code api.Errno) {
	s.index.Set(id, code)
	delete(s.waits, id)
}

// closing is Close's act.
func (s *Store) closing(start uint64) (act, api.Errno) {
	rules := s.book.Rules()
	if start > api.MaxTime || rules.Start(start) != start {
		return act{}, api.ErrTime
	}
	b, is := s.book.Get(start)
	if !is {
		return act{}, api.ErrNone
	}
	if b.Total.Many < rules.Min {
		return act{}, api.ErrFew
	}
	fill := func(w *pack.Writer) {
		w.Uint(kindClose, kindSize)
		w.Uint(start, timeSize)
	}
	return act{fill, func() { s.book.Close(start) }}, api.OK
}

// living is the act of a life's beginning.
func (s *Store) living(life uint64) (act, api.Errno) {
	fill := func(w *pack.Writer) {
		w.Uint(kindLife, kindSize)
		w.Uint(life, timeSize)
	}
	return act{fill, func() { s.life = life }}, api.OK
}
