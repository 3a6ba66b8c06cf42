package world

import (
	"tallyman/api"
	"tallyman/disk"
	"tallyman/helper"
	"tallyman/leader"
	"tallyman/msg"
	"tallyman/net"
	"tallyman/store"
	"tallyman/xof"
)

// keeper is who keeps something on a disk: the leader or the helper.
type keeper interface {
	// Store: what it keeps.
	Store() *store.Store
	// hear: a message came: the answer, if there is one.
	hear(now uint64, m msg.Message) (msg.Message, bool, api.Errno)
	// tick: what it has to say to the other one of its own accord.
	tick(now uint64) []msg.Message
}

// first is the leader as a keeper.
type first struct{ *leader.Leader }

func (x first) hear(now uint64, m msg.Message) (msg.Message, bool, api.Errno) {
	return x.Receive(now, m)
}

func (x first) tick(now uint64) []msg.Message {
	l, _ := x.Tick(now)
	return l
}

// second is the helper as a keeper.
type second struct{ *helper.Helper }

func (x second) hear(now uint64, m msg.Message) (msg.Message, bool, api.Errno) {
	r, e := x.Receive(now, m)
	return r, e == api.OK, e
}

func (x second) tick(now uint64) []msg.Message { return nil }

// begin begins the leader or the helper on its disk.
func begin(who int, x helper.Setup, s *xof.Source, d *disk.Disk) (keeper, api.Errno) {
	if who == net.Leader {
		l, e := leader.New(x, s, d)
		return first{l}, e
	}
	h, e := helper.New(x, s, d)
	return second{h}, e
}
