// Package timer tells when what wasn't answered is said again: each time after twice as long, up to a limit.
package timer

const (
	first = 1  // after how many ticks something is due again at first
	most  = 16 // and at most
)

// Timer is when something is due; a zero one: at 0.
type Timer struct {
	from, wait uint64 // due at both together: their sum may be more than a uint64
	next       uint64 // how long the wait behind this one is; 0: as at first
}

// After: due so many ticks behind a time, the waits behind that as at first.
func After(now, ticks uint64) Timer { return Timer{from: now, wait: ticks} }

// Due: is it due at a time?
func (t *Timer) Due(now uint64) bool { return now >= t.from && now-t.from >= t.wait }

// Again: it was said at a time: it is due again after a while.
func (t *Timer) Again(now uint64) {
	t.from = now
	t.wait = max(first, t.next)
	t.next = min(2*t.wait, most)
}
