// Package promises holds all layers' calls against the promises that hold everywhere: P1, and R6 and R7 of P2.
package promises

import (
	"math"
	"math/rand"
	"reflect"
	"testing"

	"tallyman/api"
	"tallyman/bucket"
	"tallyman/circuit"
	"tallyman/disk"
	"tallyman/field"
	"tallyman/gadget"
	"tallyman/helper"
	"tallyman/quant"
	"tallyman/share"
	"tallyman/xof"
)

// rounds is how many calls are made with any arguments.
const rounds = 40000

// maker makes arguments of any kind, also of what earlier calls answered.
type maker struct {
	r    *rand.Rand
	kept map[reflect.Type][]reflect.Value
}

func newMaker(seed int64) *maker {
	m := &maker{rand.New(rand.NewSource(seed)), map[reflect.Type][]reflect.Value{}}
	one := circuit.Circuit{Kind: circuit.Count, Field: field.Small}
	other := circuit.Circuit{Kind: circuit.Histogram, Field: field.Large, Length: 3, Chunk: 2}
	rules := bucket.Rules{Window: 10, Min: 1, Max: 5}
	for _, x := range []any{
		one, other, share.Task{Circuit: one, Proofs: 1}, share.Task{Circuit: other, Proofs: 2, Tag: "x"}, rules, xof.Real(), xof.Oracle([]byte{1, 2, 3}),
		disk.New(100000), helper.Setup{Task: share.Task{Circuit: one, Proofs: 1}, Rules: rules, Limit: 9}, api.Id{}, quant.Scale{Low: -1, Step: 0.5, Steps: 9}, gadget.Bit(field.Small),
	} {
		m.keep(reflect.ValueOf(x))
	}
	return m
}

// keep keeps what may be an argument later.
func (m *maker) keep(v reflect.Value) {
	t := v.Type()
	switch t.Kind() {
	case reflect.Pointer:
		if v.IsNil() {
			return
		}
	case reflect.Struct, reflect.Slice, reflect.Array:
	default:
		return
	}
	if l := m.kept[t]; len(l) < 20 {
		m.kept[t] = append(l, v)
	} else {
		l[m.r.Intn(len(l))] = v
	}
}

// number is any number: an edge, a small one, or any other.
func (m *maker) number() int64 {
	edges := []int64{32, 33, 64, 65, 255, 256, 257, 512, 1024, 1025, 4096, 4097, 65536, 65537, 1 << 20, 1<<20 + 1, 1 << 40, 1<<40 + 1, 1 << 62, math.MaxInt64, math.MinInt64, -1, -2}
	switch m.r.Intn(3) {
	case 0:
		return int64(m.r.Uint64())
	case 1:
		return int64(m.r.Intn(20))
	}
	return edges[m.r.Intn(len(edges))]
}

func (m *maker) float() float64 {
	edges := []float64{0, math.Copysign(0, -1), 1, -1, 0.5, 1e300, math.MaxFloat64, -math.MaxFloat64, math.SmallestNonzeroFloat64, math.Inf(1), math.Inf(-1), math.NaN(), 3.7}
	return edges[m.r.Intn(len(edges))]
}

func (m *maker) text() string {
	edges := []string{"", "a", "journal", "tick", "tick 5", "deliver 1", "-", "00", "crash leader 5\nstart leader", "x y z", "\x00\xff", "99999999999999999999", "123"}
	return edges[m.r.Intn(len(edges))]
}

// value is any value of a type.
func (m *maker) value(t reflect.Type, depth int) reflect.Value {
	if l := m.kept[t]; len(l) > 0 && m.r.Intn(3) > 0 {
		return l[m.r.Intn(len(l))]
	}
	v := reflect.New(t).Elem()
	switch t.Kind() {
	case reflect.Bool:
		v.SetBool(m.r.Intn(2) == 0)
	case reflect.Int:
		v.SetInt(m.number())
	case reflect.Uint8, reflect.Uint16, reflect.Uint32, reflect.Uint64:
		v.SetUint(uint64(m.number()))
	case reflect.Float64:
		v.SetFloat(m.float())
	case reflect.String:
		v.SetString(m.text())
	case reflect.Slice:
		m.fill(v, depth)
	case reflect.Array:
		for i := range t.Len() {
			if m.r.Intn(3) == 0 {
				v.Index(i).Set(m.value(t.Elem(), depth+1))
			}
		}
	case reflect.Struct:
		for i := range t.NumField() {
			if v.Field(i).CanSet() {
				v.Field(i).Set(m.value(t.Field(i).Type, depth+1))
			}
		}
	case reflect.Pointer:
		if m.r.Intn(3) > 0 {
			v.Set(reflect.New(t.Elem()))
		}
	case reflect.Func:
		if m.r.Intn(4) > 0 {
			v.Set(m.function(t))
		}
	}
	return v
}

// fill fills a slice, with some room to spare.
func (m *maker) fill(v reflect.Value, depth int) {
	many, room := m.r.Intn(6), m.r.Intn(3)
	if depth < 2 && m.r.Intn(20) == 0 {
		many = []int{48, 64, 65, 257, 1024, 1025}[m.r.Intn(6)]
	}
	l := reflect.MakeSlice(v.Type(), many+room, many+room)
	for i := range many + room {
		l.Index(i).Set(m.value(v.Type().Elem(), depth+1))
	}
	v.Set(l.Slice(0, many))
}

// function answers anything.
func (m *maker) function(t reflect.Type) reflect.Value {
	return reflect.MakeFunc(t, func([]reflect.Value) []reflect.Value {
		var out []reflect.Value
		for i := range t.NumOut() {
			v := reflect.New(t.Out(i)).Elem()
			if m.r.Intn(2) == 0 {
				v.Set(m.value(t.Out(i), 3))
			}
			out = append(out, v)
		}
		return out
	})
}

// copied is a value that shares nothing with it, the spare room of its slices included; pointers and functions stay.
func copied(v reflect.Value) reflect.Value {
	c := reflect.New(v.Type()).Elem()
	c.Set(v)
	switch v.Kind() {
	case reflect.Slice:
		if v.IsNil() {
			return c
		}
		whole := v.Slice(0, v.Cap())
		l := reflect.MakeSlice(v.Type(), whole.Len(), whole.Len())
		for i := range whole.Len() {
			l.Index(i).Set(copied(whole.Index(i)))
		}
		c.Set(l.Slice(0, v.Len()))
	case reflect.Struct:
		for i := range v.NumField() {
			if c.Field(i).CanSet() {
				c.Field(i).Set(copied(v.Field(i)))
			}
		}
	case reflect.Array:
		for i := range v.Len() {
			c.Index(i).Set(copied(v.Index(i)))
		}
	}
	return c
}

// alike: are two values the same, the spare room of their slices included?
func alike(a, b reflect.Value) bool {
	switch a.Kind() {
	case reflect.Slice:
		if a.Len() != b.Len() {
			return false
		}
		a, b = a.Slice(0, a.Cap()), b.Slice(0, b.Cap())
		for i := range min(a.Len(), b.Len()) {
			if !alike(a.Index(i), b.Index(i)) {
				return false
			}
		}
		return true
	case reflect.Struct:
		for i := range a.NumField() {
			if a.Field(i).CanInterface() && !alike(a.Field(i), b.Field(i)) {
				return false
			}
		}
		return true
	case reflect.Array:
		for i := range a.Len() {
			if !alike(a.Index(i), b.Index(i)) {
				return false
			}
		}
		return true
	case reflect.Float64:
		return math.Float64bits(a.Float()) == math.Float64bits(b.Float())
	case reflect.Pointer:
		return a.Pointer() == b.Pointer()
	case reflect.Func:
		return true
	}
	return a.Interface() == b.Interface()
}

// span is where a slice lies.
type span struct{ from, to uintptr }

// spans are where a value's slices lie, one behind the other.
func spans(v reflect.Value, room bool) []span {
	var l []span
	switch v.Kind() {
	case reflect.Slice:
		many := v.Len()
		if room {
			many = v.Cap()
		}
		if size := uintptr(many) * v.Type().Elem().Size(); size > 0 {
			l = append(l, span{v.Pointer(), v.Pointer() + size})
		}
		switch v.Type().Elem().Kind() {
		case reflect.Slice, reflect.Struct:
			for i := range v.Len() {
				l = append(l, spans(v.Index(i), room)...)
			}
		}
	case reflect.Struct:
		for i := range v.NumField() {
			l = append(l, spans(v.Field(i), room)...)
		}
	case reflect.Array:
		if k := v.Type().Elem().Kind(); k == reflect.Slice || k == reflect.Struct {
			for i := range v.Len() {
				l = append(l, spans(v.Index(i), room)...)
			}
		}
	}
	return l
}

// meet: do two of them share anything?
func (a span) meet(b span) bool { return a.from < b.to && b.from < a.to }

// disjoint: do the answers share nothing with the arguments, nor with each other?
func disjoint(args, answers []reflect.Value) bool {
	var handed, told []span
	for _, v := range args {
		handed = append(handed, spans(v, true)...)
	}
	for _, v := range answers {
		told = append(told, spans(v, false)...)
	}
	if len(told) > 300 {
		told = told[:300]
	}
	for i, a := range told {
		for _, b := range handed {
			if a.meet(b) {
				return false
			}
		}
		for _, b := range told[:i] {
			if a.meet(b) {
				return false
			}
		}
	}
	return true
}

// callee is a function, or a method of some value.
type callee struct {
	name string
	of   func(m *maker) reflect.Value
}

// callees are all functions, and all methods.
func callees() []callee {
	var l []callee
	for _, f := range functions() {
		v := reflect.ValueOf(f)
		l = append(l, callee{v.Type().String(), func(*maker) reflect.Value { return v }})
	}
	for _, t := range types() {
		p := reflect.PointerTo(t)
		for i := range p.NumMethod() {
			name := p.Method(i).Name
			of := p
			if _, is := t.MethodByName(name); is {
				of = t
			}
			l = append(l, callee{t.String() + "." + name, func(m *maker) reflect.Value { return m.value(of, 0).MethodByName(name) }})
		}
	}
	return l
}

// call calls it with any arguments, and holds what came of it against P1 and R6.
func (c callee) call(t *testing.T, m *maker) {
	f := c.of(m)
	var args, before []reflect.Value
	for i := range f.Type().NumIn() {
		v := m.value(f.Type().In(i), 0)
		args = append(args, v)
		before = append(before, copied(v))
	}
	defer func() {
		if cause := recover(); cause != nil {
			t.Fatalf("P1: %s panics: %v, of %v", c.name, cause, before)
		}
	}()
	var answers []reflect.Value
	if f.Type().IsVariadic() {
		answers = f.CallSlice(args)
	} else {
		answers = f.Call(args)
	}
	for i := range args {
		if !alike(args[i], before[i]) {
			t.Fatalf("R6: %s changed an argument", c.name)
		}
	}
	if !disjoint(args, answers) {
		t.Fatalf("R6: what %s answered isn't new memory", c.name)
	}
	for _, v := range answers {
		m.keep(v)
	}
}

func TestAnyArguments(t *testing.T) {
	m := newMaker(1)
	all := callees()
	for range rounds {
		all[m.r.Intn(len(all))].call(t, m)
	}
}

// R7: a nil object answers ErrNil, or zero values.
func TestNilObjects(t *testing.T) {
	m := newMaker(2)
	otherwise := map[string]bool{"world.World.Calm": true, "world.World.Halted": true}
	for _, of := range types() {
		p := reflect.PointerTo(of)
		for i := range p.NumMethod() {
			name := p.Method(i).Name
			if _, onValue := of.MethodByName(name); onValue || otherwise[of.String()+"."+name] {
				continue
			}
			f := reflect.Zero(p).MethodByName(name)
			var args []reflect.Value
			for i := range f.Type().NumIn() {
				args = append(args, m.value(f.Type().In(i), 0))
			}
			var answers []reflect.Value
			if f.Type().IsVariadic() {
				answers = f.CallSlice(args)
			} else {
				answers = f.Call(args)
			}
			for _, v := range answers {
				if v.Type() == reflect.TypeFor[api.Errno]() {
					if v.Interface() != api.ErrNil {
						t.Errorf("R7: %s.%s of nil answers %v", of, name, v.Int())
					}
				} else if !v.IsZero() {
					t.Errorf("R7: %s.%s of nil answers %v", of, name, v)
				}
			}
		}
	}
}
