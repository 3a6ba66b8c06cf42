// Package answer makes what the leader and the helper answer of a window that is to be collected.
package answer

import (
	"tallyman/api"
	"tallyman/msg"
	"tallyman/share"
	"tallyman/store"
)

// Refused is an Answer to a message: why there is no share of the window.
func Refused(m msg.Message, code api.Errno) msg.Message {
	return msg.Message{Kind: msg.Answer, Job: m.Job, Start: m.Start, Code: code}
}

// Closed is an Answer to a message: its window is closed, for good ahead of the answer, and this is one's share of it; or why it can't be.
func Closed(t share.Task, k *store.Store, m msg.Message) (msg.Message, api.Errno) {
	x, e := k.Close(m.Start)
	if e != api.OK {
		return Refused(m, e), api.OK
	}
	if e := k.Sync(); e != api.OK {
		return msg.Message{}, e
	}
	a := Refused(m, api.OK)
	a.Many, a.Sum = x.Many, x.Check
	a.Entries = []msg.Entry{{Share: x.Put(t)}}
	return a, api.OK
}
