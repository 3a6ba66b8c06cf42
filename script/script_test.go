package script

import (
	"bytes"
	"reflect"
	"slices"
	"strings"
	"testing"

	"tallyman/api"
	"tallyman/bucket"
	"tallyman/circuit"
	"tallyman/field"
	"tallyman/helper"
	"tallyman/share"
	"tallyman/world"
	"tallyman/xof"
)

const (
	id   = "000102030405060708090a0b0c0d0e0f"
	seed = "ffffffffffffffffffffffffffffffff"
)

func TestHex(t *testing.T) {
	if Hex(nil) != "-" || Hex([]byte{}) != "-" || Hex([]byte{0, 0xab, 0x9f}) != "00ab9f" {
		t.Error("P28.1: Hex")
	}
	all := make([]byte, 256)
	for i := range all {
		all[i] = byte(i)
	}
	if b, e := Unhex(Hex(all)); e != api.OK || !bytes.Equal(b, all) {
		t.Errorf("P28.1: Unhex: %d", e)
	}
	long := strings.Repeat("0", 131072)
	for s, want := range map[string]api.Errno{
		"-": api.OK, "": api.ErrForm, "0": api.ErrForm, "x": api.ErrForm, "--": api.ErrWord, "0x": api.ErrWord, "AB": api.ErrWord, "ab": api.OK, "g0": api.ErrWord, "/0": api.ErrWord, ":0": api.ErrWord, " 0": api.ErrWord,
		"ä": api.ErrWord, long: api.OK, long + "00": api.ErrLong, long + "x": api.ErrForm, long + "xx": api.ErrLong, "00-": api.ErrForm,
	} {
		if b, e := Unhex(s); e != want || e != api.OK && b != nil {
			t.Errorf("P28.1: Unhex(%.20q): %d", s, e)
		}
	}
}

func TestNumber(t *testing.T) {
	most := uint64(1<<64 - 1)
	for s, want := range map[string]uint64{"0": 0, "7": 7, "10": 10, "9999999999999999999": 9999999999999999999} {
		if n, ok := Number(s, most); !ok || n != want || Printed(n) != s {
			t.Errorf("P28.1: Number(%q) is %d", s, n)
		}
	}
	for _, s := range []string{"", "00", "01", "-1", "+1", "1 ", "1a", "a", "10000000000000000000", "٣", "0x1"} {
		if n, ok := Number(s, most); ok || n != 0 {
			t.Errorf("P28.1: Number(%q) is %d", s, n)
		}
	}
	if _, ok := Number("5", 5); !ok {
		t.Error("P28.1: most at most")
	}
	if n, ok := Number("6", 5); ok || n != 0 {
		t.Error("P28.1: above most")
	}
	if Printed(1<<64-1) != "18446744073709551615" {
		t.Error("P28.1: Printed")
	}
}

func steps() []world.Step {
	var i api.Id
	for n := range i {
		i[n] = byte(n)
	}
	s := api.Seed(bytes.Repeat([]byte{255}, 16))
	return []world.Step{
		{Kind: world.STick}, {Kind: world.SDeliver, A: 0}, {Kind: world.STick}, {Kind: world.STick}, {Kind: world.STick},
		{Kind: world.SMeasure, Id: i, Measure: circuit.Measure{0, 1 << 40, 7}, Random: share.Random{Helper: api.Seed{}, First: s, Second: api.Seed{}, Prove: s}},
		{Kind: world.SMeasure, Id: i}, {Kind: world.SForge, Id: i, N: 1 << 40, Bytes: [3][]byte{nil, {1}, {2, 3}}},
		{Kind: world.SDrop, A: 4096}, {Kind: world.SDouble, A: 17}, {Kind: world.SCrash, A: 0, N: 1 << 20}, {Kind: world.SStart, A: 1},
		{Kind: world.SCollect, N: 1 << 40}, {Kind: world.SQuiet, A: 64}, {Kind: world.SCrash, A: 1}, {Kind: world.SStart, A: 0},
	}
}

func text() string {
	zero := strings.Repeat("0", 32)
	return strings.Join([]string{
		"tick", "deliver 0", "tick 3",
		"measure " + id + " 0,1099511627776,7 " + zero + " " + seed + " " + zero + " " + seed,
		"measure " + id + " - " + zero + " " + zero + " " + zero + " " + zero,
		"forge " + id + " 1099511627776 - 01 0203",
		"drop 4096", "double 17", "crash leader 1048576", "start helper", "collect 1099511627776", "quiet 64", "crash helper 0", "start leader", "",
	}, "\n")
}

func TestTextAndParse(t *testing.T) {
	if got := Text(steps()); got != text() {
		t.Errorf("P28.3: Text:\n%s", got)
	}
	got, line, e := Parse(text())
	if e != api.OK || line != 0 || !reflect.DeepEqual(got, steps()) {
		t.Errorf("P28.2: Parse: %v, line %d, %d", got, line, e)
	}
	odd := "# nothing\n\n   \n  tick   2  # two\ntick 0\ntick#1\n deliver 5 "
	got, line, e = Parse(odd)
	if e != api.OK || line != 0 || Text(got) != "tick 3\ndeliver 5\n" {
		t.Errorf("P28.2: Parse: %v, line %d, %d", got, line, e)
	}
	if got, line, e := Parse(""); e != api.OK || line != 0 || len(got) != 0 {
		t.Errorf("P28.2: Parse of nothing: %d", e)
	}
}

func TestTextOfOtherSteps(t *testing.T) {
	got := Text([]world.Step{
		{Kind: world.SNothing}, {Kind: -1}, {Kind: 11}, {Kind: world.SDeliver, A: -5}, {Kind: world.SQuiet, A: -1 << 63}, {Kind: world.SCrash, A: 7, N: 1<<64 - 1}, {Kind: world.SStart, A: -1}, {Kind: world.SDrop, A: 1<<63 - 1},
	})
	if got != "deliver 0\nquiet 0\ncrash leader 18446744073709551615\nstart leader\ndrop 9223372036854775807\n" || Text(nil) != "" {
		t.Errorf("P28.3: Text: %q", got)
	}
}

func TestParseErrors(t *testing.T) {
	short := id[2:]
	for s, want := range map[string]api.Errno{
		"jump": api.ErrForm, "Tick": api.ErrForm, "jump 1 2 3": api.ErrForm, "tick x": api.ErrWord, "tick 4097": api.ErrWord, "tick 4096": api.OK, "tick 1 2": api.ErrForm, "tick x 2": api.ErrWord, "tick 01": api.ErrWord, "tick -1": api.ErrWord,
		"deliver": api.ErrForm, "deliver 4097": api.ErrWord, "deliver 4096": api.OK, "deliver 1 1": api.ErrForm, "drop 4097": api.ErrWord, "double 4097": api.ErrWord, "drop": api.ErrForm, "double": api.ErrForm,
		"crash": api.ErrForm, "crash leader": api.ErrForm, "crash nobody": api.ErrWord, "crash 0 1": api.ErrWord, "crash leader 1048577": api.ErrWord, "crash helper 1048576 1": api.ErrForm, "crash helper 0": api.OK,
		"start": api.ErrForm, "start Helper": api.ErrWord, "start helper now": api.ErrForm, "collect": api.ErrForm, "collect 1099511627777": api.ErrWord, "collect 5 5": api.ErrForm, "quiet 65": api.ErrWord, "quiet": api.ErrForm, "quiet 64": api.OK,
		"measure": api.ErrForm, "measure " + short: api.ErrSize, "measure " + id: api.ErrForm, "measure -": api.ErrSize, "measure " + id + "0": api.ErrForm, "measure " + id + "00": api.ErrSize, "measure x": api.ErrForm, "measure xx": api.ErrWord,
		"measure " + id + " x": api.ErrWord, "measure " + id + " 1,": api.ErrWord, "measure " + id + " ,1": api.ErrWord, "measure " + id + " 1,,1": api.ErrWord, "measure " + id + " 1099511627777": api.ErrWord, "measure " + id + " -,1": api.ErrWord,
		"measure " + id + " 1" + strings.Repeat(",1", 64): api.ErrMany, "measure " + id + " 1" + strings.Repeat(",1", 64) + ",x": api.ErrWord, "measure " + id + " 1" + strings.Repeat(",1", 63): api.ErrForm,
		"measure " + id + " 1 " + seed + " " + seed + " " + seed: api.ErrForm, "measure " + id + " 1 " + seed + " " + seed + " " + seed + " " + short: api.ErrSize,
		"measure " + id + " 1 " + seed + " " + seed + " " + seed + " " + seed: api.OK, "measure " + id + " 1 " + seed + " " + seed + " " + seed + " " + seed + " 1": api.ErrForm,
		"forge " + id: api.ErrForm, "forge " + id + " 1099511627777": api.ErrWord, "forge " + id + " 1 - -": api.ErrForm, "forge " + id + " 1 - - 0": api.ErrForm, "forge " + id + " 1 - - 0g": api.ErrWord, "forge " + id + " 1 - - -": api.OK, "forge " + id + " 1 - - - -": api.ErrForm,
		"forge " + id + " 1 " + strings.Repeat("00", 65537): api.ErrLong, "forge " + id + " 1 - - " + strings.Repeat("00", 65536): api.OK, "forge " + id + " 1 xx -": api.ErrWord,
	} {
		l, line, e := Parse("\n# fine\n" + s + "\njump")
		wantLine := 3
		if want == api.OK {
			want, wantLine = api.ErrForm, 4
		}
		if e != want || line != wantLine || l != nil {
			t.Errorf("P28.2: Parse(%.60q): line %d, %d; want %d", s, line, e, want)
		}
	}
}

func TestParseLimits(t *testing.T) {
	if l, line, e := Parse("tick 4096\n\n"); e != api.OK || line != 0 || len(l) != 4096 {
		t.Errorf("P28.2: 4096 steps: %d", e)
	}
	if l, line, e := Parse("tick 4096\n\ntick 0\ndrop 1"); e != api.ErrMany || line != 4 || l != nil {
		t.Errorf("P28.2: 4097 steps: line %d, %d", line, e)
	}
	if _, line, e := Parse("tick 4000\ntick 97"); e != api.ErrMany || line != 2 {
		t.Errorf("P28.2: 4097 ticks: line %d, %d", line, e)
	}
	if _, line, e := Parse("tick 4096\ntick 1 1"); e != api.ErrForm || line != 2 {
		t.Errorf("R2: line %d, %d", line, e)
	}
	if l, line, e := Parse(strings.Repeat("\n", 1<<20)); e != api.OK || line != 0 || len(l) != 0 {
		t.Errorf("P28.2: as long as may be: %d", e)
	}
	if _, line, e := Parse("jump" + strings.Repeat("\n", 1<<20)); e != api.ErrLong || line != 0 {
		t.Errorf("P28.2: too long: line %d, %d", line, e)
	}
}

func TestRun(t *testing.T) {
	w, e := world.New(helper.Setup{
		Task:  share.Task{Circuit: circuit.Circuit{Kind: circuit.Count, Field: field.Small}, Proofs: 1},
		Rules: bucket.Rules{Window: 10, Min: 1, Max: 9}, Limit: 9,
	}, xof.Real(), 1<<20)
	if e != api.OK {
		t.Fatal(e)
	}
	l, _, e := Parse("deliver 3\ntick\nstart leader\nmeasure " + id + " 2 " + seed + " " + seed + " " + seed + " " + seed + "\nstart helper\ncrash helper 0\ncrash helper 0")
	if e != api.OK {
		t.Fatal(e)
	}
	r := Run(w, l)
	if !slices.Equal(r.At, []int{0, 2, 3, 4, 6}) || !slices.Equal(r.Codes, []api.Errno{api.ErrNone, api.ErrExists, api.ErrRange, api.ErrExists, api.ErrDown}) {
		t.Errorf("P28.3: Run: %v", r)
	}
	if now, _, _ := w.Counts(); now != 1 || w.Runs(1) {
		t.Error("P28.3: each is done")
	}
	if r := Run(nil, l[:1]); !slices.Equal(r.Codes, []api.Errno{api.ErrNil}) {
		t.Errorf("R7: Run in no world: %v", r)
	}
}

func TestExamples(t *testing.T) {
	if Hex([]byte{1, 255}) != "01ff" {
		t.Error("example: Hex")
	}
}
