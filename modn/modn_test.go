package modn

import (
	"math"
	"math/big"
	"testing"

	"spandrel/api"
)

// The group's prime of layer 16: the greatest modulus that the program itself takes.
const bigPrime = 2305843009213691579

var moduli = []uint64{
	2, 3, 4, 7, 10, 11, 1000, 1<<31 - 1, 1 << 32, 1<<32 + 15, bigPrime,
	1<<62 - 57, 1<<62 - 1, api.MostMod,
}

var noModuli = []uint64{0, 1, api.MostMod + 1, api.MostMod + 2, 1 << 63, math.MaxUint64}

// numbersFor answers numbers below, at and above m, up to the largest uint64.
func numbersFor(m uint64) []uint64 {
	return []uint64{
		0, 1, 2, 3, 6, 1<<32 - 1, 1 << 32, 123456789012345678,
		m / 2, m - 1, m, m + 1, 2*m - 1, 2 * m, 2*m + 1, 3*m + 2,
		1<<62 - 1, 1 << 62, 1<<62 + 1, 1<<63 - 1, 1 << 63, math.MaxUint64 - 1, math.MaxUint64,
	}
}

func number(x uint64) *big.Int { return new(big.Int).SetUint64(x) }

// modulo answers x modulo m, from 0 up also of an x below 0.
func modulo(x *big.Int, m uint64) uint64 { return new(big.Int).Mod(x, number(m)).Uint64() }

func wantSum(a, b, m uint64) uint64 {
	return modulo(new(big.Int).Add(number(a), number(b)), m)
}

func wantDifference(a, b, m uint64) uint64 {
	return modulo(new(big.Int).Sub(number(a), number(b)), m)
}

func wantProduct(a, b, m uint64) uint64 {
	return modulo(new(big.Int).Mul(number(a), number(b)), m)
}

func wantPower(a, e, m uint64) uint64 {
	return new(big.Int).Exp(number(a), number(e), number(m)).Uint64()
}

func wantInverse(a, m uint64) (uint64, bool) {
	b := new(big.Int).ModInverse(number(a), number(m))
	if b == nil {
		return 0, false
	}
	return b.Uint64(), true
}

type call struct {
	name string
	real func(a, b, m uint64) uint64
	want func(a, b, m uint64) uint64
}

func calls() []call {
	return []call{
		{"Add", Add, wantSum},
		{"Sub", Sub, wantDifference},
		{"Mul", Mul, wantProduct},
		{"Pow", Pow, wantPower},
	}
}

func checkAll(t *testing.T, a, b, m uint64) {
	t.Helper()
	for _, c := range calls() {
		if got, want := c.real(a, b, m), c.want(a, b, m); got != want {
			t.Errorf("%s(%d, %d, %d) is %d, want %d", c.name, a, b, m, got, want)
		}
	}
}

func checkInverse(t *testing.T, a, m uint64) {
	t.Helper()
	got, ok := Inv(a, m)
	want, wantOk := wantInverse(a, m)
	if got != want || ok != wantOk {
		t.Errorf("Inv(%d, %d) is %d, %v, want %d, %v", a, m, got, ok, want, wantOk)
	}
}

func TestExamples(t *testing.T) {
	for _, c := range []struct {
		name      string
		got, want uint64
	}{
		{"Add(10, 5, 11)", Add(10, 5, 11), 4},
		{"Add(3, 4, 11)", Add(3, 4, 11), 7},
		{"Add(5, 6, 11)", Add(5, 6, 11), 0},
		{"Sub(3, 5, 11)", Sub(3, 5, 11), 9},
		{"Sub(5, 3, 11)", Sub(5, 3, 11), 2},
		{"Sub(5, 5, 11)", Sub(5, 5, 11), 0},
		{"Mul(5, 7, 11)", Mul(5, 7, 11), 2},
		{"Pow(2, 10, 1000)", Pow(2, 10, 1000), 24},
		{"Pow(3, 4, 7)", Pow(3, 4, 7), 4},
	} {
		if c.got != c.want {
			t.Errorf("%s is %d, want %d", c.name, c.got, c.want)
		}
	}
	if b, ok := Inv(3, 7); b != 5 || !ok {
		t.Errorf("Inv(3, 7) is %d, %v", b, ok)
	}
	if b, ok := Inv(2, 4); b != 0 || ok {
		t.Errorf("Inv(2, 4) is %d, %v", b, ok)
	}
}

// TestSmallModuli goes through all numbers of the small moduli, and those above them.
func TestSmallModuli(t *testing.T) {
	for m := uint64(2); m <= 30; m++ {
		for a := uint64(0); a <= 2*m+1; a++ {
			checkInverse(t, a, m)
			for b := uint64(0); b <= 2*m+1; b++ {
				checkAll(t, a, b, m)
			}
		}
	}
}

func TestEdges(t *testing.T) {
	for _, m := range moduli {
		for _, a := range numbersFor(m) {
			checkInverse(t, a, m)
			for _, b := range numbersFor(m) {
				checkAll(t, a, b, m)
			}
		}
	}
}

// TestManyNumbers takes numbers of a fixed rule, so that all their bits are met.
func TestManyNumbers(t *testing.T) {
	state := uint64(1)
	next := func() uint64 {
		state = state*6364136223846793005 + 1442695040888963407
		return state ^ state>>29
	}
	for range 20000 {
		a, b := next(), next()
		m := next()%(api.MostMod-1) + 2
		m >>= next() % 61
		if m < 2 {
			m = 2
		}
		checkAll(t, a, b, m)
		checkInverse(t, a, m)
	}
}

func TestLargestOfAll(t *testing.T) {
	const most = math.MaxUint64
	// 2^64 - 1 is -1 modulo 2^62, as 2^62 parts 2^64.
	for _, c := range []struct {
		name      string
		got, want uint64
	}{
		{"Add", Add(most, most, api.MostMod), 1<<62 - 2},
		{"Sub", Sub(0, most, api.MostMod), 1},
		{"Mul", Mul(most, most, api.MostMod), 1},
		{"Pow, odd", Pow(most, most, api.MostMod), 1<<62 - 1},
		{"Pow, even", Pow(most, most-1, api.MostMod), 1},
	} {
		if c.got != c.want {
			t.Errorf("%s is %d, want %d", c.name, c.got, c.want)
		}
	}
	if b, ok := Inv(most, api.MostMod); b != 1<<62-1 || !ok {
		t.Errorf("Inv is %d, %v", b, ok)
	}
}

func TestPowerOfNothing(t *testing.T) {
	for _, m := range moduli {
		for _, a := range numbersFor(m) {
			if got := Pow(a, 0, m); got != 1 {
				t.Errorf("Pow(%d, 0, %d) is %d, want 1", a, m, got)
			}
		}
	}
}

// TestExponentIsNotReduced: 2 to the 7 would be 1, were 7 taken modulo 7.
func TestExponentIsNotReduced(t *testing.T) {
	if got := Pow(2, 7, 7); got != 2 {
		t.Errorf("Pow(2, 7, 7) is %d, want 2", got)
	}
	if got := Pow(0, 5, 5); got != 0 {
		t.Errorf("Pow(0, 5, 5) is %d, want 0", got)
	}
	if got := Pow(3, bigPrime, bigPrime); got != 3 {
		t.Errorf("Pow(3, p, p) is %d, want 3", got)
	}
}

func TestInverseMakesOne(t *testing.T) {
	for _, m := range moduli {
		for _, a := range numbersFor(m) {
			b, ok := Inv(a, m)
			if ok && (b < 1 || b >= m || Mul(a, b, m) != 1) {
				t.Errorf("Inv(%d, %d) is %d", a, m, b)
			}
		}
	}
}

func TestNoInverse(t *testing.T) {
	for _, c := range [][2]uint64{
		{0, 2}, {2, 2}, {2, 4}, {6, 4}, {0, 7}, {7, 7}, {14, 7}, {6, 9}, {10, 1000},
		{0, bigPrime}, {bigPrime, bigPrime},
		{0, api.MostMod}, {2, api.MostMod}, {api.MostMod, api.MostMod}, {1 << 61, api.MostMod},
	} {
		if b, ok := Inv(c[0], c[1]); b != 0 || ok {
			t.Errorf("Inv(%d, %d) is %d, %v, want none", c[0], c[1], b, ok)
		}
	}
}

func TestNoModulus(t *testing.T) {
	for _, m := range noModuli {
		for _, a := range numbersFor(m) {
			if b, ok := Inv(a, m); b != 0 || ok {
				t.Errorf("Inv(%d, %d) is %d, %v, want none", a, m, b, ok)
			}
			for _, b := range numbersFor(m) {
				for _, c := range calls() {
					if got := c.real(a, b, m); got != 0 {
						t.Errorf("%s(%d, %d, %d) is %d, want 0", c.name, a, b, m, got)
					}
				}
			}
		}
	}
}
