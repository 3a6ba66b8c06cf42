package poly

import (
	"tallyman/api"
	"tallyman/field"
	"tallyman/ntt"
)

// Through: the polynomial of least degree that has values at points, which are all unlike.
func Through(f field.Field, points, values []api.Elem) ([]api.Elem, api.Errno) {
	if !f.Valid() {
		return nil, api.ErrKind
	}
	if len(points) != len(values) {
		return nil, api.ErrSize
	}
	if len(points) > mostCommon {
		return nil, api.ErrMany
	}
	// p goes through all points so far, zero is nought at just these.
	var p []api.Elem
	zero := []api.Elem{f.One()}
	for i, x := range points {
		part, e := f.Inv(At(f, zero, x))
		if e != api.OK {
			return nil, e
		}
		lacks := f.Mul(f.Sub(values[i], At(f, p, x)), part)
		p = Add(f, p, Scale(f, zero, lacks))
		zero = mulByPlaces(f, zero, []api.Elem{f.Neg(x), f.One()})
	}
	return p, api.OK
}

// Weights: by which each value at the powers of a root of order 2^log counts for the value at a point (that is none of these).
func Weights(f field.Field, log int, x api.Elem) ([]api.Elem, api.Errno) {
	points, e := ntt.Points(f, log)
	if e != api.OK {
		return nil, e
	}
	apart := make([]api.Elem, len(points))
	for i, p := range points {
		apart[i] = f.Sub(x, p)
	}
	weights, e := f.InvVec(apart)
	if e != api.OK {
		return nil, api.ErrPoint
	}
	// Point p's weight is (x^n - 1) / n times p / (x - p), n being how many points there are.
	many := uint64(len(points))
	part, e := f.Inv(f.Of(many))
	if e != api.OK {
		return nil, e
	}
	whole := f.Mul(f.Sub(f.Pow(x, many), f.One()), part)
	for i, p := range points {
		weights[i] = f.Mul(weights[i], f.Mul(p, whole))
	}
	return weights, api.OK
}

// Lagrange: the value at a point of the polynomial that has values at the powers of a root.
func Lagrange(f field.Field, values []api.Elem, x api.Elem) (api.Elem, api.Errno) {
	log, ok := ntt.Log(len(values))
	if !ok {
		return api.Elem{}, api.ErrSize
	}
	weights, e := Weights(f, log, x)
	if e != api.OK {
		return api.Elem{}, e
	}
	return f.Dot(weights, values)
}
