package world

import (
	"math/rand"
	"slices"
	"testing"

	"tallyman/api"
	"tallyman/bucket"
	"tallyman/circuit"
	"tallyman/field"
	"tallyman/helper"
	"tallyman/share"
	"tallyman/store"
	"tallyman/total"
	"tallyman/xof"
)

// story is a world that much befalls, and what was measured in it.
type story struct {
	w        *World
	r        *rand.Rand
	measured map[api.Id]uint64
	times    map[api.Id]uint64
	last     byte
}

func newStory(t *testing.T, seed int64, x helper.Setup) *story {
	t.Helper()
	w, e := New(x, xof.Real(), 1<<20)
	if e != api.OK {
		t.Fatal(e)
	}
	return &story{w, rand.New(rand.NewSource(seed)), map[api.Id]uint64{}, map[api.Id]uint64{}, 0}
}

// wrongReport is a client's whose vector isn't right: a 2 among its bits.
func (s *story) wrongReport(id api.Id) Step {
	t := s.w.setup.Task
	p, l, h, _ := t.ShardVector(xof.Real(), id, []api.Elem{{2}, {1}, {}, {1}}, seeds(id[0]))
	now, _, _ := s.w.Counts()
	return Step{Kind: SForge, Id: id, N: now, Bytes: [3][]byte{t.PutPublic(p), t.PutLeader(l), t.PutHelper(h)}}
}

// step is something that befalls.
func (s *story) step() Step {
	many := s.w.Net().Len()
	at := s.r.Intn(max(1, many))
	switch n := s.r.Intn(100); {
	case n < 8:
		s.last++
		id := api.Id{s.last}
		m := measure(s.last, uint64(s.r.Intn(16)))
		if s.r.Intn(5) == 0 {
			return s.wrongReport(id)
		}
		now, clients, _ := s.w.Counts()
		if clients < api.MaxClients {
			s.measured[id], s.times[id] = m.Measure[0], now
		}
		return m
	case n < 10:
		s.last++
		return Step{Kind: SForge, Id: api.Id{s.last}, N: uint64(s.r.Intn(40)), Bytes: [3][]byte{make([]byte, s.r.Intn(40)), make([]byte, 48), {1}}}
	case n < 30:
		return Step{Kind: STick}
	case n < 65:
		return Step{Kind: SDeliver, A: at}
	case n < 75:
		return Step{Kind: SDrop, A: at}
	case n < 85:
		return Step{Kind: SDouble, A: at}
	case n < 88:
		return Step{Kind: SCrash, A: s.r.Intn(2), N: uint64(s.r.Intn(300))}
	case n < 94:
		return Step{Kind: SStart, A: s.r.Intn(2)}
	case n < 98:
		now, _, _ := s.w.Counts()
		return Step{Kind: SCollect, N: s.w.setup.Rules.Start(uint64(s.r.Intn(int(now) + 10)))}
	}
	return Step{Kind: SQuiet, A: s.r.Intn(70)}
}

// rest lets all run, and nothing more befall.
func (s *story) rest(t *testing.T) {
	t.Helper()
	for who := range 2 {
		s.w.Do(Step{Kind: SStart, A: who})
		if !s.w.Runs(who) {
			t.Fatalf("P5: %d doesn't begin: %d", who, s.w.Halted(who))
		}
	}
	if s.w.Calm(4096) < 0 {
		t.Fatal("P6: something waits for ever")
	}
}

// added are the ids of the reports that one added.
func added(k *store.Store) []api.Id {
	var l []api.Id
	for _, x := range k.All() {
		if x.Code == api.OK {
			l = append(l, x.Id)
		}
	}
	return l
}

// check holds what came of it against the promises.
func (s *story) check(t *testing.T) {
	t.Helper()
	leader, helper := s.w.Store(0), s.w.Store(1)
	if !slices.Equal(added(leader), added(helper)) {
		t.Errorf("P6, P7: the leader added %v, the helper %v", added(leader), added(helper))
	}
	for _, x := range helper.All() {
		own, is := leader.Seen(x.Id)
		if is && x.Code != api.OK && x.Code != api.ErrWait && (own.Code == api.OK || own.Code == api.ErrWait) {
			t.Errorf("P7: the helper refused report %d, the leader didn't", x.Id[0])
		}
	}
	sums, many, checks := map[uint64]uint64{}, map[uint64]int{}, map[uint64]total.Check{}
	for _, id := range added(leader) {
		if _, honest := s.measured[id]; !honest {
			t.Errorf("P4: report %d was added", id[0])
		}
		start := leader.Rules().Start(s.times[id])
		sums[start] += s.measured[id]
		many[start]++
		checks[start] = checks[start].With(total.OfId(id))
	}
	for who, k := range []*store.Store{leader, helper} {
		for _, b := range k.Book() {
			if b.Total.Many != many[b.Start] || b.Total.Check != checks[b.Start] {
				t.Errorf("P3: %d's window %d has %d reports", who, b.Start, b.Total.Many)
			}
		}
	}
	for _, r := range s.w.Results() {
		if r.Code == api.OK && (r.Many != many[r.Start] || !slices.Equal(r.Sums, []uint64{sums[r.Start]})) {
			t.Errorf("P3: window %d: %v, want %d of %d", r.Start, r, sums[r.Start], many[r.Start])
		}
	}
}

// some is a setup of either field, of any windows, with room for few reports or many.
func some(seed int64) helper.Setup {
	x := setup
	x.Task.Circuit.Field = field.Field(1 + seed%2)
	x.Task.Proofs = 1 + int(seed%3)
	x.Rules = bucket.Rules{Window: uint64(5 + seed%13), Min: 1 + int(seed%3), Max: 3 + int(seed%9)}
	x.Limit = 5 + int(seed%40)
	x.Ahead = uint64(seed % 20)
	return x
}

func TestWhateverBefalls(t *testing.T) {
	collected := 0
	for seed := range int64(60) {
		x := setup
		if seed%2 == 1 {
			x = some(seed / 2)
		}
		s := newStory(t, seed, x)
		wanted := 0
		for range 600 {
			x := s.step()
			if e := s.w.Do(x); x.Kind == SCollect && e == api.OK {
				wanted++
			}
		}
		s.rest(t)
		s.check(t)
		// Whoever stops now, even without a loose byte, is as it was.
		before := added(s.w.Store(0))
		for who := range 2 {
			s.w.Do(Step{Kind: SCrash, A: who})
		}
		s.rest(t)
		s.check(t)
		if !slices.Equal(before, added(s.w.Store(0))) {
			t.Error("P5: what was added isn't any more")
		}
		if len(s.w.Results()) != wanted {
			t.Errorf("P6: %d windows of %d came", len(s.w.Results()), wanted)
		}
		for _, r := range s.w.Results() {
			if r.Code == api.OK {
				collected++
			}
		}
		if t.Failed() {
			t.Fatalf("seed %d", seed)
		}
	}
	if collected < 10 {
		t.Errorf("only %d windows were collected", collected)
	}
}

// When nothing is lost for ever, every honest report is added, or refused by both.
func TestHonestReports(t *testing.T) {
	for seed := range int64(10) {
		s := newStory(t, seed, setup)
		for n := range byte(40) {
			m := uint64(s.r.Intn(16))
			now, _, _ := s.w.Counts()
			s.measured[api.Id{n}], s.times[api.Id{n}] = m, now
			s.w.Do(measure(n, m))
			for range s.r.Intn(30) {
				at := s.r.Intn(max(1, s.w.Net().Len()))
				s.w.Do(Step{Kind: []int{STick, SDeliver, SDeliver, SDrop, SDouble, SCrash, SStart, SStart}[s.r.Intn(8)], A: at % max(2, s.w.Net().Len())})
			}
		}
		s.rest(t)
		s.check(t)
		if len(added(s.w.Store(0)))+refused(s.w) != 40 {
			t.Errorf("P6: %d reports of 40 were added, %d refused", len(added(s.w.Store(0))), refused(s.w))
		}
	}
}

// refused is how many reports were refused by both.
func refused(w *World) int {
	many := 0
	for _, x := range w.Store(0).All() {
		other, is := w.Store(1).Seen(x.Id)
		if is && x.Code != api.OK && other.Code != api.OK {
			many++
		}
	}
	return many
}

// A disk on which nothing has room loses nothing that was said.
func TestSmallDisks(t *testing.T) {
	for limit := 64; limit < 2500; limit += 160 {
		w, e := New(setup, xof.Real(), limit)
		if e != api.OK {
			t.Fatal(e)
		}
		s := &story{w, rand.New(rand.NewSource(int64(limit))), map[api.Id]uint64{}, map[api.Id]uint64{}, 0}
		for range 400 {
			x := s.step()
			if x.Kind != SCrash && x.Kind != SForge {
				s.w.Do(x)
			}
		}
		s.w.Calm(100)
		leader, helper := added(w.Store(0)), added(w.Store(1))
		for _, id := range leader {
			if !slices.Contains(helper, id) {
				t.Errorf("P7: a disk of %d: the leader added %d, the helper didn't", limit, id[0])
			}
		}
	}
}

// P8: by other draws another vector has the same first share.
func TestHidden(t *testing.T) {
	f := field.Small
	task := share.Task{Circuit: circuit.Circuit{Kind: circuit.Count, Field: f}, Proofs: 1}
	drawn := api.Elem{12345}
	_, l, _, e := task.Shard(xof.Oracle(f.Bytes(drawn)), api.Id{}, circuit.Measure{1}, share.Random{})
	other := f.Add(f.Sub(api.Elem{}, f.One()), drawn)
	_, l2, _, e2 := task.Shard(xof.Oracle(f.Bytes(other)), api.Id{}, circuit.Measure{0}, share.Random{})
	if e != api.OK || e2 != api.OK || !slices.Equal(l.In, l2.In) {
		t.Errorf("P8: %v, %v", l.In, l2.In)
	}
}

// P5: what was changed in the midst is an error, what was changed at the end is lost.
func TestJournalIsNotRight(t *testing.T) {
	s := newStory(t, 3, setup)
	for n := range byte(6) {
		s.w.Do(measure(n, 1))
	}
	s.rest(t)
	for who := range 2 {
		d := s.w.Disk(who)
		for bit := 0; bit < 8*d.Used(); bit += 509 {
			c := d.Copy()
			c.Turn(store.File, bit)
			k, e := store.Open(c, setup.Task, setup.Rules, setup.Limit)
			last := bit >= 8*(d.Used()-64)
			if last != (e == api.OK) || !last && e != api.ErrHalt || (k != nil) != last {
				t.Errorf("P5: bit %d: %d", bit, e)
			}
		}
	}
}
