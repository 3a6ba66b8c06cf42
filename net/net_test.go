package net

import (
	"testing"

	"tallyman/api"
)

func counts(t *testing.T, n *Net, sent, came, lost int) {
	t.Helper()
	if a, b, c := n.Counts(); a != sent || b != came || c != lost {
		t.Errorf("P26.1: Counts: %d, %d, %d; want %d, %d, %d", a, b, c, sent, came, lost)
	}
}

func TestWhoMaySend(t *testing.T) {
	far := 1<<63 - 1
	for _, from := range []int{-far - 1, -1, 0, 1, 2, 3, 4, 66, 67, far} {
		for _, to := range []int{-far - 1, -1, 0, 1, 2, 3, 4, 66, 67, far} {
			want := api.OK
			inside := from >= 0 && from <= 66 && to >= 0 && to <= 66
			client := from >= 3 && to >= 2 || to >= 3 && from >= 2
			if !inside || from == to || client {
				want = api.ErrRange
			}
			n := New()
			if e := n.Send(Letter{from, to, nil}); e != want || (n.Len() == 1) != (want == api.OK) {
				t.Errorf("P26.1: from %d to %d: %d", from, to, e)
			}
			if e := n.Send(Letter{from, to, make([]byte, 1<<20+1)}); want == api.OK && e != api.ErrLong || want != api.OK && e != want {
				t.Errorf("P26.1: a long letter from %d to %d: %d", from, to, e)
			}
		}
	}
	if e := New().Send(Letter{0, 1, make([]byte, 1<<20)}); e != api.OK {
		t.Errorf("P26.1: as long as may be: %d", e)
	}
}

func TestLetters(t *testing.T) {
	n := New()
	b := []byte{1}
	for i := range byte(4) {
		b[0] = i
		n.Send(Letter{3, int(i) % 2, b})
	}
	b[0] = 99
	for _, i := range []int{-1, 4, 1<<63 - 1} {
		_, p := n.Peek(i)
		_, d := n.Deliver(i)
		if p || d || n.Drop(i) || n.Double(i) {
			t.Errorf("P26.1: there is no letter %d", i)
		}
	}
	counts(t, n, 4, 0, 0)
	l, is := n.Peek(2)
	if !is || l.From != 3 || l.To != 0 || l.Bytes[0] != 2 || n.Len() != 4 {
		t.Errorf("P26.1: Peek: %v", l)
	}
	l.Bytes[0] = 77
	if !n.Double(2) || n.Len() != 5 {
		t.Error("P26.1: Double")
	}
	if l, is := n.Deliver(2); !is || l.Bytes[0] != 2 {
		t.Errorf("P26.1: Deliver: %v", l)
	} else {
		l.Bytes[0] = 66
	}
	if !n.Drop(0) || n.Len() != 3 {
		t.Error("P26.1: Drop")
	}
	for _, want := range []byte{1, 3, 2} {
		if l, is := n.Deliver(0); !is || l.Bytes[0] != want {
			t.Errorf("P26.1: in order: %v, want %d", l, want)
		}
	}
	counts(t, n, 4, 4, 1)
}

func TestFull(t *testing.T) {
	n := New()
	for range 4096 {
		n.Send(Letter{0, 1, nil})
	}
	if e := n.Send(Letter{0, 1, nil}); e != api.ErrFull || n.Len() != 4096 || n.Double(0) || n.Len() != 4096 {
		t.Errorf("P26.1: full: %d", e)
	}
	counts(t, n, 4096, 0, 1)
	n.Deliver(0)
	if !n.Double(0) || n.Len() != 4096 {
		t.Error("P26.1: room again")
	}
}

func TestNil(t *testing.T) {
	var n *Net
	_, p := n.Peek(0)
	_, d := n.Deliver(0)
	if n.Send(Letter{0, 0, nil}) != api.ErrNil || n.Len() != 0 || p || d || n.Drop(0) || n.Double(0) {
		t.Error("R7: nil")
	}
	counts(t, n, 0, 0, 0)
}

func TestExamples(t *testing.T) {
	n := New()
	n.Send(Letter{0, 1, []byte{5}})
	n.Double(0)
	n.Drop(0)
	if l, is := n.Deliver(0); !is || l.Bytes[0] != 5 || n.Len() != 0 {
		t.Errorf("example: %v", l)
	}
	if _, is := n.Deliver(0); is {
		t.Error("example: it comes once")
	}
}
