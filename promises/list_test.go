package promises

import (
	"reflect"

	"tallyman/bucket"
	"tallyman/circuit"
	"tallyman/client"
	"tallyman/collect"
	"tallyman/disk"
	"tallyman/field"
	"tallyman/gadget"
	"tallyman/gold"
	"tallyman/helper"
	"tallyman/journal"
	"tallyman/keccak"
	"tallyman/leader"
	"tallyman/msg"
	"tallyman/net"
	"tallyman/ntt"
	"tallyman/pack"
	"tallyman/poly"
	"tallyman/prep"
	"tallyman/proof"
	"tallyman/quant"
	"tallyman/replay"
	"tallyman/script"
	"tallyman/share"
	"tallyman/stats"
	"tallyman/store"
	"tallyman/tape"
	"tallyman/total"
	"tallyman/view"
	"tallyman/wide"
	"tallyman/world"
	"tallyman/xof"
)

// functions are all that the chapters list, layer by layer.
func functions() []any {
	return []any{
		gold.In, gold.Of, gold.Add, gold.Neg, gold.Sub, gold.Mul, gold.Pow, gold.Inv, gold.Root, gold.Bytes, gold.Take,
		wide.P, wide.In, wide.Of, wide.Add, wide.Neg, wide.Sub, wide.Mul, wide.Pow, wide.Inv, wide.Root, wide.Bytes, wide.Take,
		ntt.Log, ntt.Next, ntt.Points, ntt.Values, ntt.Coefs,
		poly.Trim, poly.Degree, poly.At, poly.Add, poly.Scale, poly.Mul, poly.Divide, poly.Common, poly.Through, poly.Weights, poly.Lagrange,
		keccak.New, keccak.Hash,
		xof.Real, xof.Oracle,
		quant.Bits, quant.Same, quant.Compare,
		gadget.Bit,
		proof.Prove, proof.Query, proof.Decide, proof.Direct, proof.Bound, proof.Gadget,
		pack.Read,
		prep.Leader, prep.Helper, prep.Both, prep.Next, prep.PutShare, prep.TakeShare, prep.PutMessage, prep.TakeMessage,
		total.OfId, total.New, total.Unshard, total.Take, total.Same,
		disk.New,
		journal.Lay, journal.Scan, journal.Open,
		replay.New, replay.Compare, replay.Unlike,
		bucket.New,
		msg.Decode, msg.Same,
		store.Open,
		client.New, client.Raw,
		helper.New, helper.Take,
		leader.New,
		collect.New,
		net.New,
		world.New,
		script.Parse, script.Hex, script.Unhex, script.Number, script.Printed, script.Run, script.Text,
		view.Report, view.Bucket, view.Result, view.Store, view.World,
		stats.Summarize, stats.Clamp, stats.Near, stats.Histogram, stats.Part, stats.Of,
		tape.Split, tape.Retape, tape.Spread, tape.Other, tape.Swap,
	}
}

// types are those that have methods.
func types() []reflect.Type {
	return []reflect.Type{
		reflect.TypeFor[field.Field](),
		reflect.TypeFor[keccak.State](), reflect.TypeFor[keccak.Sponge](),
		reflect.TypeFor[xof.Source](), reflect.TypeFor[xof.Stream](),
		reflect.TypeFor[quant.Scale](),
		reflect.TypeFor[gadget.Gadget](),
		reflect.TypeFor[circuit.Circuit](),
		reflect.TypeFor[pack.Writer](), reflect.TypeFor[pack.Reader](),
		reflect.TypeFor[share.Task](),
		reflect.TypeFor[total.Check](), reflect.TypeFor[total.Total](),
		reflect.TypeFor[disk.Disk](),
		reflect.TypeFor[journal.Journal](),
		reflect.TypeFor[replay.Index](),
		reflect.TypeFor[bucket.Rules](), reflect.TypeFor[bucket.Book](),
		reflect.TypeFor[msg.Message](),
		reflect.TypeFor[store.Store](),
		reflect.TypeFor[client.Client](),
		reflect.TypeFor[helper.Setup](), reflect.TypeFor[helper.Helper](),
		reflect.TypeFor[leader.Leader](),
		reflect.TypeFor[collect.Collector](),
		reflect.TypeFor[net.Net](),
		reflect.TypeFor[world.World](),
		reflect.TypeFor[stats.Table](),
	}
}
