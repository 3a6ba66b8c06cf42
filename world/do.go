package world

import (
	"tallyman/api"
	"tallyman/client"
	"tallyman/collect"
	"tallyman/msg"
	"tallyman/net"
)

// Do: a step is done.
func (w *World) Do(s Step) api.Errno {
	if w == nil {
		return api.ErrNil
	}
	switch s.Kind {
	case STick:
		return w.tick()
	case SMeasure:
		return w.join(client.New(w.setup.Task, w.source, s.Id, w.now, s.Measure, s.Random))
	case SForge:
		return w.join(client.Raw(s.Id, s.N, s.Bytes[0], s.Bytes[1], s.Bytes[2]))
	case SDeliver:
		return w.deliver(s.A)
	case SDrop:
		return orNone(w.net.Drop(s.A))
	case SDouble:
		return orNone(w.net.Double(s.A))
	case SCrash:
		return w.crash(s.A, s.N)
	case SStart:
		if !isMachine(s.A) {
			return api.ErrRange
		}
		if w.Runs(s.A) {
			return api.ErrExists
		}
		return w.start(s.A)
	case SCollect:
		return w.collector.Want(s.N)
	case SQuiet:
		if w.client(s.A) == nil {
			return api.ErrNone
		}
		w.clients[s.A] = nil
		return api.OK
	}
	return api.ErrKind
}

// orNone is ErrNone of what there isn't.
func orNone(is bool) api.Errno {
	if !is {
		return api.ErrNone
	}
	return api.OK
}

// tick lets the time go on, and sends all that anyone has to say.
func (w *World) tick() api.Errno {
	if w.now >= api.MaxTime {
		return api.ErrTime
	}
	w.now++
	for i, c := range w.clients {
		for _, l := range c.Tick(w.now) {
			w.send(net.First+i, l.To, l.Message)
		}
	}
	if w.Runs(net.Leader) {
		for _, m := range w.machines[net.Leader].keeper.tick(w.now) {
			w.send(net.Leader, net.Helper, m)
		}
	}
	w.sendCollector(w.collector.Tick(w.now))
	return api.OK
}

// sendCollector sends what the collector says.
func (w *World) sendCollector(letters []collect.Letter) {
	for _, l := range letters {
		w.send(net.Collector, l.To, l.Message)
	}
}

// join is a client more, if it could be made.
func (w *World) join(c *client.Client, e api.Errno) api.Errno {
	if e != api.OK {
		return e
	}
	if len(w.clients) >= api.MaxClients {
		return api.ErrMany
	}
	w.clients = append(w.clients, c)
	return api.OK
}

// crash stops the leader or the helper; so many of each file's loose bytes stay.
func (w *World) crash(who int, keep uint64) api.Errno {
	if !w.Runs(who) {
		return api.ErrDown
	}
	w.machines[who].keeper = nil
	w.machines[who].disk.Crash(int(min(keep, api.MaxFile)))
	return api.OK
}

// start begins the leader or the helper, which doesn't run.
func (w *World) start(who int) api.Errno {
	m := &w.machines[who]
	k, e := begin(who, w.setup, w.source, m.disk)
	m.halted = e
	if e != api.OK {
		return e
	}
	m.keeper = k
	return api.OK
}

// deliver lets the letter at a place come.
func (w *World) deliver(at int) api.Errno {
	l, is := w.net.Deliver(at)
	if !is {
		return api.ErrNone
	}
	m, e := msg.Decode(l.Bytes)
	if e != api.OK {
		w.bad++
		return e
	}
	if l.To == net.Collector {
		next, e := w.collector.Receive(w.now, l.From, m)
		w.sendCollector(next)
		return e
	}
	if l.To >= net.First {
		return w.answered(l.To-net.First, l.From, m)
	}
	return w.heard(l, m)
}

// answered hands a client an answer.
func (w *World) answered(i, from int, m msg.Message) api.Errno {
	if i >= len(w.clients) {
		return api.ErrNone
	}
	return w.clients[i].Receive(from, m)
}

// heard hands the leader or the helper a message, and sends the answer back.
func (w *World) heard(l net.Letter, m msg.Message) api.Errno {
	if !w.Runs(l.To) {
		return api.ErrDown
	}
	if !may(l, m.Kind) {
		w.bad++
		return api.ErrKind
	}
	r, is, e := w.machines[l.To].keeper.hear(w.now, m)
	if is {
		w.send(l.To, l.From, r)
	}
	return e
}

// may: may who sent a letter to the leader or the helper say what is of such a kind?
func may(l net.Letter, kind uint8) bool {
	switch kind {
	case msg.Upload:
		return l.From >= net.First
	case msg.Init:
		return l.From == net.Leader
	case msg.Reply:
		return l.From == net.Helper
	case msg.Collect:
		return l.From == net.Collector && l.To == net.Leader
	case msg.Ask:
		return l.From == net.Collector && l.To == net.Helper
	}
	return false
}
