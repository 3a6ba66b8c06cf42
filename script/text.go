package script

import (
	"strings"

	"tallyman/circuit"
	"tallyman/net"
	"tallyman/world"
)

// Text: steps as a text, a line for each; ticks that follow one another as one line. (Of what can't be a step there is nothing.)
func Text(l []world.Step) string {
	var b strings.Builder
	for i := 0; i < len(l); i++ {
		words := wordsOf(l[i])
		if l[i].Kind == world.STick {
			many := ticks(l[i:])
			if many > 1 {
				words = append(words, Printed(uint64(many)))
			}
			i += many - 1
		}
		if len(words) > 0 {
			b.WriteString(strings.Join(words, " "))
			b.WriteString("\n")
		}
	}
	return b.String()
}

// ticks is how many ticks a list begins with.
func ticks(l []world.Step) int {
	many := 0
	for many < len(l) && l[many].Kind == world.STick {
		many++
	}
	return many
}

// wordsOf are a step's words; a tick's without how many there are.
func wordsOf(s world.Step) []string {
	switch s.Kind {
	case world.STick:
		return []string{nameTick}
	case world.SMeasure:
		r := s.Random
		return []string{nameMeasure, Hex(s.Id[:]), listed(s.Measure), Hex(r.Helper[:]), Hex(r.First[:]), Hex(r.Second[:]), Hex(r.Prove[:])}
	case world.SForge:
		return []string{nameForge, Hex(s.Id[:]), Printed(s.N), Hex(s.Bytes[0]), Hex(s.Bytes[1]), Hex(s.Bytes[2])}
	case world.SDeliver:
		return []string{nameDeliver, place(s.A)}
	case world.SDrop:
		return []string{nameDrop, place(s.A)}
	case world.SDouble:
		return []string{nameDouble, place(s.A)}
	case world.SCrash:
		return []string{nameCrash, who(s.A), Printed(s.N)}
	case world.SStart:
		return []string{nameStart, who(s.A)}
	case world.SCollect:
		return []string{nameCollect, Printed(s.N)}
	case world.SQuiet:
		return []string{nameQuiet, place(s.A)}
	}
	return nil
}

// place is an int as a number; 0 of what is below.
func place(n int) string { return Printed(uint64(max(0, n))) }

// who is the leader's name, or the helper's.
func who(n int) string {
	if n == net.Helper {
		return nameHelper
	}
	return nameLeader
}

// listed is numbers with commas between.
func listed(m circuit.Measure) string {
	if len(m) == 0 {
		return none
	}
	l := make([]string, len(m))
	for i, n := range m {
		l[i] = Printed(n)
	}
	return strings.Join(l, ",")
}
