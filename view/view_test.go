package view

import (
	"strings"
	"testing"

	"tallyman/api"
	"tallyman/bucket"
	"tallyman/circuit"
	"tallyman/collect"
	"tallyman/field"
	"tallyman/helper"
	"tallyman/replay"
	"tallyman/script"
	"tallyman/share"
	"tallyman/store"
	"tallyman/total"
	"tallyman/world"
	"tallyman/xof"
)

func same(t *testing.T, what, got, want string) {
	t.Helper()
	if got != want {
		t.Errorf("%s: %q, want %q", what, got, want)
	}
}

func TestReport(t *testing.T) {
	id := "0100000000000000000000000000000f"
	for e, want := range map[api.Errno]string{0: "ok", -1: "?", -1 << 63: "?", 1: "error 1", 30: "error 30", 99: "error 99"} {
		same(t, "P29.1: Report", Report(replay.Seen{Id: api.Id{1, 15: 15}, Time: 1<<64 - 1, Code: e}), id+" at 18446744073709551615 "+want)
	}
}

func TestBucket(t *testing.T) {
	check := "02" + strings.Repeat("00", 14) + "ff"
	b := bucket.Bucket{Start: 10, Total: total.Total{Many: 3, Check: total.Check{2, 15: 255}}}
	same(t, "P29.1: Bucket", Bucket(b), "window 10 reports 3 open check "+check)
	b.Closed, b.Total.Many = true, -3
	same(t, "P29.1: Bucket", Bucket(b), "window 10 reports 0 closed check "+check)
}

func TestResult(t *testing.T) {
	same(t, "P29.1: Result", Result(collect.Result{Start: 7, Many: -1, Sums: []uint64{0, 1<<64 - 1}}), "window 7 ok reports 0 sums 0 18446744073709551615")
	same(t, "P29.1: Result", Result(collect.Result{}), "window 0 ok reports 0 sums")
	same(t, "P29.1: Result", Result(collect.Result{Start: 7, Many: 3, Sums: []uint64{1}, Code: api.ErrFew}), "window 7 error 17")
	same(t, "P29.1: Result", Result(collect.Result{Code: -5}), "window 0 ?")
}

func TestStoreAndWorld(t *testing.T) {
	same(t, "P29.2: no store", Store(nil), "down\n")
	same(t, "P29.2: a zero store", Store(&store.Store{}), "life 0 cells 0\n")
	same(t, "P29.2: no world", World(nil), "")
	w, e := world.New(helper.Setup{
		Task:  share.Task{Circuit: circuit.Circuit{Kind: circuit.Count, Field: field.Small}, Proofs: 1},
		Rules: bucket.Rules{Window: 10, Min: 1, Max: 9}, Limit: 9,
	}, xof.Real(), 1<<20)
	if e != api.OK {
		t.Fatal(e)
	}
	same(t, "P29.2: a new world", World(w), "time 0 clients 0 letters 0 bad 0\nleader\nlife 1 cells 1\nhelper\nlife 1 cells 1\n")
	a, b, zero := "0a"+strings.Repeat("00", 15), "0b"+strings.Repeat("00", 15), strings.Repeat("00", 16)
	seeds := strings.Repeat(" "+zero, 4)
	l, _, e := script.Parse("tick 12\nmeasure " + b + " 1" + seeds + "\nforge " + a + " 5 - - -")
	if e != api.OK {
		t.Fatal(e)
	}
	script.Run(w, l)
	w.Calm(50)
	l, _, _ = script.Parse("collect 10\ncollect 20")
	script.Run(w, l)
	w.Calm(50)
	script.Run(w, []world.Step{{Kind: world.STick}, {Kind: world.SForge, Id: api.Id{9}}, {Kind: world.STick}, {Kind: world.SCrash, A: 1}})
	check := total.OfId(api.Id{11})
	windows := "window 10 reports 1 closed check " + script.Hex(check[:]) + "\n"
	reports := a + " at 5 error 3\n" + b + " at 12 ok\n"
	now, _, _ := w.Counts()
	_, cells := w.Store(0).Life()
	want := "time " + script.Printed(now) + " clients 3 letters 2 bad 0\nleader\nlife 1 cells " + script.Printed(uint64(cells)) + "\n" + windows + reports +
		"helper\ndown\nwindow 10 ok reports 1 sums 1\nwindow 20 error 19\n"
	same(t, "P29.2: World", World(w), want)
	same(t, "P29.2: Store", Store(w.Store(0)), "life 1 cells "+script.Printed(uint64(cells))+"\n"+windows+reports)
}

func TestExamples(t *testing.T) {
	same(t, "example", Result(collect.Result{Start: 10, Many: 3, Sums: []uint64{2}}), "window 10 ok reports 3 sums 2")
}
