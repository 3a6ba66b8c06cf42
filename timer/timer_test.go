package timer

import (
	"slices"
	"testing"
)

// said is when it is due, till a time, if it is said each time.
func said(t Timer, till uint64) []uint64 {
	var l []uint64
	for now := range till {
		if t.Due(now) {
			l = append(l, now)
			t.Again(now)
		}
	}
	return l
}

func TestTimer(t *testing.T) {
	if l := said(Timer{}, 80); !slices.Equal(l, []uint64{0, 1, 3, 7, 15, 31, 47, 63, 79}) {
		t.Errorf("from 0 on: %v", l)
	}
	if l := said(After(5, 0), 21); !slices.Equal(l, []uint64{5, 6, 8, 12, 20}) {
		t.Errorf("from 5 on: %v", l)
	}
	if l := said(After(5, 1), 15); !slices.Equal(l, []uint64{6, 7, 9, 13}) {
		t.Errorf("behind 5: %v", l)
	}
}

func TestTheEndOfTime(t *testing.T) {
	last := uint64(1<<64 - 1)
	x := After(last, 0)
	if !x.Due(last) || x.Due(last-1) {
		t.Error("due at the last time")
	}
	x.Again(last)
	if x.Due(last) || x.Due(0) {
		t.Error("due behind all times")
	}
}
