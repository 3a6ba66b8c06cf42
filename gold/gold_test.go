package gold

import (
	"math/big"
	"math/rand"
	"testing"

	"tallyman/api"
)

// samples are edges, and numbers in between, also such as aren't below P.
func samples() []uint64 {
	l := []uint64{0, 1, 2, 7, 1<<32 - 1, 1 << 32, 1<<32 + 1, 1 << 63, P - 2, P - 1, P, P + 1, P + 5, 1<<64 - 2, 1<<64 - 1}
	r := rand.New(rand.NewSource(1))
	for range 40 {
		l = append(l, r.Uint64())
	}
	return l
}

func modulus() *big.Int { return new(big.Int).SetUint64(P) }

func whole(a uint64) *big.Int { return new(big.Int).SetUint64(a) }

func reduced(n *big.Int) uint64 { return new(big.Int).Mod(n, modulus()).Uint64() }

func TestInAndOf(t *testing.T) {
	for _, a := range samples() {
		if In(a) != (whole(a).Cmp(modulus()) < 0) {
			t.Errorf("P1.1: In(%d)", a)
		}
		if Of(a) != reduced(whole(a)) {
			t.Errorf("P1.1: Of(%d) = %d", a, Of(a))
		}
	}
}

func TestSumsAndProducts(t *testing.T) {
	for _, a := range samples() {
		if Neg(a) != reduced(new(big.Int).Neg(whole(a))) {
			t.Errorf("P1.1: Neg(%d) = %d", a, Neg(a))
		}
		for _, b := range samples() {
			if got := Add(a, b); got != reduced(new(big.Int).Add(whole(a), whole(b))) {
				t.Errorf("P1.1: Add(%d, %d) = %d", a, b, got)
			}
			if got := Sub(a, b); got != reduced(new(big.Int).Sub(whole(a), whole(b))) {
				t.Errorf("P1.1: Sub(%d, %d) = %d", a, b, got)
			}
			if got := Mul(a, b); got != reduced(new(big.Int).Mul(whole(a), whole(b))) {
				t.Errorf("P1.1: Mul(%d, %d) = %d", a, b, got)
			}
		}
	}
}

func TestPow(t *testing.T) {
	for _, a := range samples() {
		for _, n := range []uint64{0, 1, 2, 3, 64, P - 1, P, 1<<64 - 1} {
			if got := Pow(a, n); got != new(big.Int).Exp(whole(a), whole(n), modulus()).Uint64() {
				t.Errorf("P1.1: Pow(%d, %d) = %d", a, n, got)
			}
		}
	}
}

func TestInv(t *testing.T) {
	for _, a := range samples() {
		n, e := Inv(a)
		if a == 0 || a == P {
			if n != 0 || e != api.ErrDivide {
				t.Errorf("P1.1: Inv(%d) = %d, %d", a, n, e)
			}
			continue
		}
		if e != api.OK || !In(n) || Mul(a, n) != 1 {
			t.Errorf("P1.1: Inv(%d) = %d, %d", a, n, e)
		}
	}
}

func TestRoot(t *testing.T) {
	for _, log := range []int{-1 << 63, -1, 33, 64, 1<<63 - 1} {
		if r, e := Root(log); r != 0 || e != api.ErrRange {
			t.Errorf("P1.2: Root(%d) = %d, %d", log, r, e)
		}
	}
	for log := 0; log <= Roots; log++ {
		r, e := Root(log)
		power := new(big.Int).Rsh(whole(P-1), uint(log))
		if e != api.OK || r != new(big.Int).Exp(whole(7), power, modulus()).Uint64() {
			t.Errorf("P1.2: Root(%d) = %d, %d", log, r, e)
		}
		if log > 0 && Pow(r, 1<<(log-1)) != P-1 {
			t.Errorf("P1.2: Root(%d) has another order", log)
		}
	}
}

func TestBytes(t *testing.T) {
	if Bytes(0x0102030405060708) != [8]byte{8, 7, 6, 5, 4, 3, 2, 1} {
		t.Error("P1.2: Bytes")
	}
	if Bytes(P+1) != [8]byte{1} {
		t.Error("P1.1: what is handed in counts modulo P")
	}
	for _, a := range samples() {
		if n, e := Take(Bytes(a)); e != api.OK || n != Of(a) {
			t.Errorf("P1.2: Take of Bytes(%d) = %d, %d", a, n, e)
		}
	}
	if n, e := Take([8]byte{0, 0, 0, 0, 255, 255, 255, 255}); e != api.OK || n != P-1 {
		t.Errorf("P1.2: Take of P - 1 = %d, %d", n, e)
	}
	for _, b := range [][8]byte{{1, 0, 0, 0, 255, 255, 255, 255}, {255, 255, 255, 255, 255, 255, 255, 255}} {
		if n, e := Take(b); n != 0 || e != api.ErrField {
			t.Errorf("P1.2: Take(%v) = %d, %d", b, n, e)
		}
	}
}

func TestExamples(t *testing.T) {
	if Neg(1) != 18446744069414584320 {
		t.Error("example: Neg(1)")
	}
}
