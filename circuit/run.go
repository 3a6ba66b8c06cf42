package circuit

import (
	"tallyman/api"
)

// Call is how the gadget is asked.
type Call func(in []api.Elem) (api.Elem, api.Errno)

// ask is a call; one that panics answers ErrOther instead, so that Run never does.
func ask(call Call, in ...api.Elem) (a api.Elem, e api.Errno) {
	defer func() {
		if recover() != nil {
			a, e = api.Elem{}, api.ErrOther
		}
	}()
	return call(in)
}

// Run: what is said of a vector, or of one of so many shares of it: nought of a right one; the gadget is asked by a call.
func (c Circuit) Run(in, joint []api.Elem, shares int, call Call) (api.Elem, api.Errno) {
	if e := c.Check(); e != api.OK {
		return api.Elem{}, e
	}
	if call == nil {
		return api.Elem{}, api.ErrNil
	}
	if len(in) != c.in() || len(joint) != c.Joint() {
		return api.Elem{}, api.ErrSize
	}
	part, e := c.Field.Inv(c.Field.Of(uint64(max(0, shares))))
	if e != api.OK {
		return api.Elem{}, e
	}
	switch c.Kind {
	case Count:
		return c.runCount(in[0], call)
	case Sum:
		return c.runSum(in, joint[0], call)
	}
	said, e := c.runChunks(in, joint, part, call)
	if e != api.OK {
		return api.Elem{}, e
	}
	return c.Field.Add(said, c.ofWeight(in, joint, part)), api.OK
}

// runCount is Run of a Count: nought of 0 and 1.
func (c Circuit) runCount(x api.Elem, call Call) (api.Elem, api.Errno) {
	square, e := ask(call, x, x)
	if e != api.OK {
		return api.Elem{}, e
	}
	return c.Field.Sub(square, x), api.OK
}

// runSum is Run of a Sum: of each bit nought of 0 and 1.
func (c Circuit) runSum(in []api.Elem, r api.Elem, call Call) (api.Elem, api.Errno) {
	var sum api.Elem
	power := r
	for _, bit := range in {
		said, e := ask(call, bit)
		if e != api.OK {
			return api.Elem{}, e
		}
		sum = c.Field.Add(sum, c.Field.Mul(power, said))
		power = c.Field.Mul(power, r)
	}
	return sum, api.OK
}

// runChunks asks, chunk by chunk, whether all elements are 0 or 1.
func (c Circuit) runChunks(in, joint []api.Elem, part api.Elem, call Call) (api.Elem, api.Errno) {
	var sum api.Elem
	for k := range c.calls() {
		chunk := in[k*c.Chunk : min((k+1)*c.Chunk, len(in))]
		said, e := ask(call, c.pairs(chunk, joint[k], part)...)
		if e != api.OK {
			return api.Elem{}, e
		}
		sum = c.Field.Add(sum, said)
	}
	return sum, api.OK
}

// pairs is what the gadget is asked of a chunk: of each x a power of r times x, and x less part; both zero where there is none.
func (c Circuit) pairs(chunk []api.Elem, r, part api.Elem) []api.Elem {
	f := c.Field
	l := make([]api.Elem, 2*c.Chunk)
	power := r
	for i, x := range chunk {
		l[2*i] = f.Mul(power, x)
		l[2*i+1] = f.Sub(x, part)
		power = f.Mul(power, r)
	}
	return l
}

// ofWeight is what is said of how many are 1.
func (c Circuit) ofWeight(in, joint []api.Elem, part api.Elem) api.Elem {
	f := c.Field
	switch c.Kind {
	case Histogram:
		return f.Mul(joint[len(joint)-1], f.Sub(f.Sum(in...), part))
	case Multihot:
		ones := f.Sum(in[:c.Length]...)
		told := c.number(in[c.Length:])
		lifted := f.Mul(f.Of(c.offset()), part)
		return f.Mul(joint[len(joint)-1], f.Add(f.Sub(ones, told), lifted))
	}
	return api.Elem{}
}

// Valid: is a vector right? (As the vector itself says, without any draw.)
func (c Circuit) Valid(in []api.Elem) bool {
	if !c.right() || len(in) != c.in() {
		return false
	}
	f := c.Field
	for _, x := range in {
		if n := f.Sum(x); n != (api.Elem{}) && n != f.One() {
			return false
		}
	}
	switch c.Kind {
	case Histogram:
		return f.Sum(in...) == f.One()
	case Multihot:
		return f.Add(f.Sum(in[:c.Length]...), f.Of(c.offset())) == c.number(in[c.Length:])
	}
	return true
}
