package script

import (
	"strings"

	"tallyman/api"
	"tallyman/circuit"
	"tallyman/net"
	"tallyman/world"
)

// How great the numbers of steps may be.
const (
	mostTicks   = 4096
	mostPlace   = 4096
	mostKept    = 1 << 20
	mostClient  = 64
	mostNumbers = 64
)

// The names of steps, and of who stops and begins.
const (
	nameTick    = "tick"
	nameMeasure = "measure"
	nameForge   = "forge"
	nameDeliver = "deliver"
	nameDrop    = "drop"
	nameDouble  = "double"
	nameCrash   = "crash"
	nameStart   = "start"
	nameCollect = "collect"
	nameQuiet   = "quiet"
	nameLeader  = "leader"
	nameHelper  = "helper"
)

// trouble is what a line that isn't right ends by.
type trouble struct{ code api.Errno }

// Parse: a text as steps; the line at which it isn't right (0: none of them).
func Parse(s string) ([]world.Step, int, api.Errno) {
	if len(s) > mostText {
		return nil, 0, api.ErrLong
	}
	var steps []world.Step
	for i, line := range strings.Split(s, "\n") {
		step, many, e := parseLine(line)
		if e == api.OK && len(steps)+many > MaxSteps {
			e = api.ErrMany
		}
		if e != api.OK {
			return nil, i + 1, e
		}
		for range many {
			steps = append(steps, step)
		}
	}
	return steps, 0, api.OK
}

// parseLine is a line's step, and how often it is done.
func parseLine(line string) (step world.Step, many int, e api.Errno) {
	defer func() {
		switch cause := recover().(type) {
		case nil:
		case trouble:
			step, many, e = world.Step{}, 0, cause.code
		default:
			panic(cause)
		}
	}()
	line, _, _ = strings.Cut(line, "#")
	w := &words{left: split(line)}
	if len(w.left) == 0 {
		return world.Step{}, 0, api.OK
	}
	step, many = w.step()
	if len(w.left) > 0 {
		panic(trouble{api.ErrForm})
	}
	return step, many, api.OK
}

// split is a line's words.
func split(line string) []string {
	var l []string
	for _, word := range strings.Split(line, " ") {
		if word != "" {
			l = append(l, word)
		}
	}
	return l
}

// words are those of a line that weren't taken yet. Where one can't be taken the line ends.
type words struct{ left []string }

// next is the next word.
func (w *words) next() string {
	if len(w.left) == 0 {
		panic(trouble{api.ErrForm})
	}
	word := w.left[0]
	w.left = w.left[1:]
	return word
}

// step is a line's step, and how often it is done.
func (w *words) step() (world.Step, int) {
	switch w.next() {
	case nameTick:
		many := 1
		if len(w.left) > 0 {
			many = w.place(mostTicks)
		}
		return world.Step{Kind: world.STick}, many
	case nameMeasure:
		return w.measure(), 1
	case nameForge:
		return w.forge(), 1
	case nameDeliver:
		return world.Step{Kind: world.SDeliver, A: w.place(mostPlace)}, 1
	case nameDrop:
		return world.Step{Kind: world.SDrop, A: w.place(mostPlace)}, 1
	case nameDouble:
		return world.Step{Kind: world.SDouble, A: w.place(mostPlace)}, 1
	case nameCrash:
		who := w.who()
		return world.Step{Kind: world.SCrash, A: who, N: w.number(mostKept)}, 1
	case nameStart:
		return world.Step{Kind: world.SStart, A: w.who()}, 1
	case nameCollect:
		return world.Step{Kind: world.SCollect, N: w.number(api.MaxTime)}, 1
	case nameQuiet:
		return world.Step{Kind: world.SQuiet, A: w.place(mostClient)}, 1
	}
	panic(trouble{api.ErrForm})
}

// measure is what is behind its name.
func (w *words) measure() world.Step {
	s := world.Step{Kind: world.SMeasure, Id: api.Id(w.sixteen()), Measure: w.numbers()}
	s.Random.Helper = api.Seed(w.sixteen())
	s.Random.First = api.Seed(w.sixteen())
	s.Random.Second = api.Seed(w.sixteen())
	s.Random.Prove = api.Seed(w.sixteen())
	return s
}

// forge is what is behind its name.
func (w *words) forge() world.Step {
	s := world.Step{Kind: world.SForge, Id: api.Id(w.sixteen()), N: w.number(api.MaxTime)}
	for i := range s.Bytes {
		s.Bytes[i] = w.bytes()
	}
	return s
}

// number is the next word as a number.
func (w *words) number(most uint64) uint64 {
	n, ok := Number(w.next(), most)
	if !ok {
		panic(trouble{api.ErrWord})
	}
	return n
}

// place is the next word as a number that is an int.
func (w *words) place(most uint64) int { return int(w.number(most)) }

// numbers is the next word as numbers with commas between.
func (w *words) numbers() circuit.Measure {
	word := w.next()
	if word == none {
		return nil
	}
	var m circuit.Measure
	for _, s := range strings.Split(word, ",") {
		one := &words{left: []string{s}}
		m = append(m, one.number(api.MaxTime))
	}
	if len(m) > mostNumbers {
		panic(trouble{api.ErrMany})
	}
	return m
}

// who is the next word as the leader or the helper.
func (w *words) who() int {
	switch w.next() {
	case nameLeader:
		return net.Leader
	case nameHelper:
		return net.Helper
	}
	panic(trouble{api.ErrWord})
}

// bytes is the next word as bytes.
func (w *words) bytes() []byte {
	b, e := Unhex(w.next())
	if e != api.OK {
		panic(trouble{e})
	}
	return b
}

// sixteen is the next word as sixteen bytes: an id, or a seed.
func (w *words) sixteen() [16]byte {
	b := w.bytes()
	var l [16]byte
	if len(b) != len(l) {
		panic(trouble{api.ErrSize})
	}
	copy(l[:], b)
	return l
}
