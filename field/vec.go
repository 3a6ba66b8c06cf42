package field

import (
	"tallyman/api"
)

// Vec: elements as bytes, one behind the other.
func (f Field) Vec(l []api.Elem) []byte {
	if !f.Valid() {
		return nil
	}
	b := make([]byte, 0, len(l)*f.Size())
	for _, a := range l {
		b = append(b, f.Bytes(a)...)
	}
	return b
}

// TakeVec: so many elements of just so many bytes.
func (f Field) TakeVec(b []byte, many int) ([]api.Elem, api.Errno) {
	if !f.Valid() {
		return nil, api.ErrKind
	}
	if many < 0 || many > api.MaxVec {
		return nil, api.ErrRange
	}
	size := f.Size()
	if len(b) != many*size {
		return nil, api.ErrSize
	}
	l := make([]api.Elem, many)
	for i := range l {
		a, e := f.Take(b[i*size : (i+1)*size])
		if e != api.OK {
			return nil, e
		}
		l[i] = a
	}
	return l, api.OK
}

// AddVec: a and b, place by place.
func (f Field) AddVec(a, b []api.Elem) ([]api.Elem, api.Errno) {
	return f.each(f.Add, a, b)
}

// SubVec: a less b, place by place.
func (f Field) SubVec(a, b []api.Elem) ([]api.Elem, api.Errno) {
	return f.each(f.Sub, a, b)
}

// each is what is done place by place.
func (f Field) each(do func(a, b api.Elem) api.Elem, a, b []api.Elem) ([]api.Elem, api.Errno) {
	if !f.Valid() {
		return nil, api.ErrKind
	}
	if len(a) != len(b) {
		return nil, api.ErrSize
	}
	l := make([]api.Elem, len(a))
	for i := range l {
		l[i] = do(a[i], b[i])
	}
	return l, api.OK
}

// Dot: the sum of the products, place by place.
func (f Field) Dot(a, b []api.Elem) (api.Elem, api.Errno) {
	l, e := f.each(f.Mul, a, b)
	return f.Sum(l...), e
}

// Sum: of elements.
func (f Field) Sum(l ...api.Elem) api.Elem {
	var sum api.Elem
	for _, a := range l {
		sum = f.Add(sum, a)
	}
	return sum
}

// Powers: 1, a, a times a, and so on, so many.
func (f Field) Powers(a api.Elem, many int) []api.Elem {
	if !f.Valid() || many <= 0 {
		return nil
	}
	l := make([]api.Elem, min(many, api.MaxVec))
	power := f.One()
	for i := range len(l) {
		l[i] = power
		power = f.Mul(power, a)
	}
	return l
}

// InvVec: by which each element has to be multiplied to be 1, by one Inv for all.
func (f Field) InvVec(l []api.Elem) ([]api.Elem, api.Errno) {
	if !f.Valid() {
		return nil, api.ErrKind
	}
	if len(l) > api.MaxVec {
		return nil, api.ErrRange
	}
	// ahead[i] is the product of all elements ahead of place i.
	ahead := make([]api.Elem, len(l))
	product := f.One()
	for i, a := range l {
		ahead[i] = product
		product = f.Mul(product, a)
	}
	inverse, e := f.Inv(product)
	if e != api.OK {
		return nil, e
	}
	for i := len(l) - 1; i >= 0; i-- {
		ahead[i] = f.Mul(ahead[i], inverse)
		inverse = f.Mul(inverse, l[i])
	}
	return ahead, api.OK
}
