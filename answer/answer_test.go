package answer

import (
	"testing"

	"tallyman/api"
	"tallyman/bucket"
	"tallyman/circuit"
	"tallyman/disk"
	"tallyman/field"
	"tallyman/msg"
	"tallyman/share"
	"tallyman/store"
	"tallyman/total"
)

var task = share.Task{Circuit: circuit.Circuit{Kind: circuit.Count, Field: field.Small}, Proofs: 1}

func TestAnswers(t *testing.T) {
	d := disk.New(1 << 20)
	k, e := store.Open(d, task, bucket.Rules{Window: 10, Min: 1, Max: 9}, 9)
	if e != api.OK {
		t.Fatal(e)
	}
	asked := msg.Message{Kind: msg.Collect, Job: 5, Start: 10, Many: 7, Entries: make([]msg.Entry, 2)}
	refused := msg.Message{Kind: msg.Answer, Job: 5, Start: 10, Code: api.ErrNone}
	if !msg.Same(Refused(asked, api.ErrNone), refused) {
		t.Error("Refused")
	}
	if a, e := Closed(task, k, asked); e != api.OK || !msg.Same(a, refused) {
		t.Errorf("no window: %v, %d", a, e)
	}
	k.Accept(store.Report{Id: api.Id{1}, Time: 12})
	k.Commit(api.Id{1}, []api.Elem{{3}}, nil)
	a, e := Closed(task, k, asked)
	x := total.Total{Sum: []api.Elem{{3}}, Many: 1, Check: total.OfId(api.Id{1})}
	if e != api.OK || !msg.Same(a, msg.Message{Kind: msg.Answer, Job: 5, Start: 10, Many: 1, Sum: x.Check, Entries: []msg.Entry{{Share: x.Put(task)}}}) {
		t.Errorf("closed: %v, %d", a, e)
	}
	if d.Loose(store.File) != 0 {
		t.Error("it stays ahead of the answer")
	}
	if a, e := Closed(task, nil, asked); e != api.OK || a.Code != api.ErrNil {
		t.Errorf("no store: %v, %d", a, e)
	}
}
