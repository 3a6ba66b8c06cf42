package wide

import (
	"math/big"
	"math/rand"
	"testing"

	"tallyman/api"
)

const most = 1<<64 - 1

// samples are edges, and numbers in between, also such as aren't below P.
func samples() []api.Elem {
	l := []api.Elem{
		{}, {1}, {2}, {7}, {most}, {0, 1}, {1, 1}, {0, 1 << 63}, {most, 1<<63 - 1},
		{0, highP}, {most, highP - 1}, {1, highP}, {2, highP}, {most, highP}, {0, highP + 1}, {most - 1, most}, {most, most},
	}
	r := rand.New(rand.NewSource(2))
	for range 30 {
		l = append(l, api.Elem{r.Uint64(), r.Uint64()})
	}
	return l
}

func whole(a api.Elem) *big.Int {
	n := new(big.Int).SetUint64(a[1])
	n.Lsh(n, 64)
	return n.Add(n, new(big.Int).SetUint64(a[0]))
}

func modulus() *big.Int {
	n := new(big.Int).Lsh(big.NewInt(1), 128)
	n.Sub(n, new(big.Int).Lsh(big.NewInt(7), 66))
	return n.Add(n, big.NewInt(1))
}

func reduced(n *big.Int) api.Elem {
	n = new(big.Int).Mod(n, modulus())
	high := new(big.Int).Rsh(n, 64).Uint64()
	low := new(big.Int).And(n, new(big.Int).SetUint64(most)).Uint64()
	return api.Elem{low, high}
}

func TestModulus(t *testing.T) {
	if whole(P()).Cmp(modulus()) != 0 || P() != (api.Elem{1, 18446744073709551588}) {
		t.Errorf("P2.1: P is %v", P())
	}
}

func TestInAndOf(t *testing.T) {
	for _, a := range samples() {
		if In(a) != (whole(a).Cmp(modulus()) < 0) {
			t.Errorf("P2.1: In(%v)", a)
		}
		if Of(a) != reduced(whole(a)) {
			t.Errorf("P2.1: Of(%v) = %v", a, Of(a))
		}
	}
}

func TestSumsAndProducts(t *testing.T) {
	for _, a := range samples() {
		if Neg(a) != reduced(new(big.Int).Neg(whole(a))) {
			t.Errorf("P2.1: Neg(%v) = %v", a, Neg(a))
		}
		for _, b := range samples() {
			if got := Add(a, b); got != reduced(new(big.Int).Add(whole(a), whole(b))) {
				t.Errorf("P2.1: Add(%v, %v) = %v", a, b, got)
			}
			if got := Sub(a, b); got != reduced(new(big.Int).Sub(whole(a), whole(b))) {
				t.Errorf("P2.1: Sub(%v, %v) = %v", a, b, got)
			}
			if got := Mul(a, b); got != reduced(new(big.Int).Mul(whole(a), whole(b))) {
				t.Errorf("P2.1: Mul(%v, %v) = %v", a, b, got)
			}
		}
	}
}

func TestPow(t *testing.T) {
	for _, a := range samples() {
		for _, n := range []api.Elem{{}, {1}, {2}, {3}, {0, 1}, {0, highP}, {1, highP}, {most, most}} {
			if got := Pow(a, n); got != reduced(new(big.Int).Exp(whole(a), whole(n), modulus())) {
				t.Errorf("P2.1: Pow(%v, %v) = %v", a, n, got)
			}
		}
	}
}

func TestInv(t *testing.T) {
	for _, a := range samples() {
		n, e := Inv(a)
		if a == (api.Elem{}) || a == P() {
			if n != (api.Elem{}) || e != api.ErrDivide {
				t.Errorf("P2.1: Inv(%v) = %v, %d", a, n, e)
			}
			continue
		}
		if e != api.OK || !In(n) || Mul(a, n) != (api.Elem{1}) {
			t.Errorf("P2.1: Inv(%v) = %v, %d", a, n, e)
		}
	}
}

func TestRoot(t *testing.T) {
	for _, log := range []int{-1 << 63, -1, 67, 128, 1<<63 - 1} {
		if r, e := Root(log); r != (api.Elem{}) || e != api.ErrRange {
			t.Errorf("P2.2: Root(%d) = %v, %d", log, r, e)
		}
	}
	for log := 0; log <= Roots; log++ {
		r, e := Root(log)
		power := new(big.Int).Sub(modulus(), big.NewInt(1))
		power.Rsh(power, uint(log))
		if e != api.OK || r != reduced(new(big.Int).Exp(big.NewInt(7), power, modulus())) {
			t.Errorf("P2.2: Root(%d) = %v, %d", log, r, e)
		}
	}
}

func TestBytes(t *testing.T) {
	if Bytes(api.Elem{0x0102030405060708, 0x1112131415161718}) != [16]byte{8, 7, 6, 5, 4, 3, 2, 1, 0x18, 0x17, 0x16, 0x15, 0x14, 0x13, 0x12, 0x11} {
		t.Error("P2.2: Bytes")
	}
	for _, a := range samples() {
		if n, e := Take(Bytes(a)); e != api.OK || n != Of(a) {
			t.Errorf("P2.2: Take of Bytes(%v) = %v, %d", a, n, e)
		}
	}
	biggest := [16]byte{8: 228, 9: 255, 10: 255, 11: 255, 12: 255, 13: 255, 14: 255, 15: 255}
	if n, e := Take(biggest); e != api.OK || n != Neg(api.Elem{1}) {
		t.Errorf("P2.2: Take of P - 1 = %v, %d", n, e)
	}
	biggest[0] = 1
	if n, e := Take(biggest); n != (api.Elem{}) || e != api.ErrField {
		t.Errorf("P2.2: Take of P = %v, %d", n, e)
	}
}

func TestExamples(t *testing.T) {
	if Mul(api.Elem{0, 1 << 63}, api.Elem{2}) != (api.Elem{most, 27}) {
		t.Error("example: Mul of 2^127 by 2")
	}
}
