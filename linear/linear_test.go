package linear

import (
	"math"
	"math/big"
	"reflect"
	"slices"
	"testing"

	"spandrel/api"
	"spandrel/group"
)

const greatest = math.MaxUint64

func row(n, a uint64, factors ...uint64) api.Row {
	return api.Row{N: n, A: a, Factors: factors}
}

// eleven has the least P of all groups.
func eleven() api.Params {
	return api.Params{P: 11, Q: 5, G: 4, H: 9, Rows: []api.Row{row(5, 2, 2), row(11, 2, 2, 5)}}
}

// small is the group of the chapters' examples.
func small() api.Params {
	return api.Params{P: 2027, Q: 1013, G: 4, H: 9, Rows: []api.Row{
		row(5, 2, 2), row(11, 2, 2, 5), row(23, 5, 2, 11), row(1013, 3, 2, 11, 23), row(2027, 2, 2, 1013),
	}}
}

// largest has the greatest P that a group may have: no other one is so near to
// MostMod. Its G is above half of P, so that no product fits into 64 bits.
func largest() api.Params {
	return api.Params{P: 1<<62 - 10565, Q: 1<<61 - 5283, G: 1<<62 - 10567, H: 9, Rows: []api.Row{
		row(3, 2, 2), row(5, 2, 2), row(7, 3, 2, 3), row(11, 2, 2, 5), row(2311, 3, 2, 3, 5, 7, 11),
		row(73, 5, 2, 3), row(17, 3, 2), row(23, 5, 2, 11), row(41, 6, 2, 5), row(821, 2, 2, 5, 41),
		row(172411, 3, 2, 3, 5, 7, 821), row(7930907, 2, 2, 23, 172411),
		row(11864636873, 5, 2, 11, 17, 7930907), row(1732236983459, 2, 2, 73, 11864636873),
		row(249442125618097, 5, 2, 3, 1732236983459),
		row(1<<61-5283, 2, 2, 2311, 249442125618097),
		row(1<<62-10565, 2, 2, 1<<61-5283),
	}}
}

func groups() []api.Params { return []api.Params{eleven(), small(), largest()} }

// TestGroupsOfTheTestsAreRight: the chapter speaks of groups that are right alone.
func TestGroupsOfTheTestsAreRight(t *testing.T) {
	for _, g := range groups() {
		if !group.Right(g) {
			t.Errorf("the group of %d isn't right", g.P)
		}
	}
}

func number(x uint64) *big.Int { return new(big.Int).SetUint64(x) }

func wantPower(g api.Params, x, e uint64) uint64 {
	return new(big.Int).Exp(number(x), number(e), number(g.P)).Uint64()
}

func wantProduct(g api.Params, l ...uint64) uint64 {
	product := big.NewInt(1)
	for _, x := range l {
		product.Mod(product.Mul(product, number(x)), number(g.P))
	}
	return product.Uint64()
}

// wantOver works by the little theorem of Fermat, as P is a prime.
func wantOver(g api.Params, x, y uint64) uint64 {
	return wantProduct(g, x, wantPower(g, y, g.P-2))
}

// wantImage raises to exponents that are not taken modulo Q: of elements the
// powers are the same.
func wantImage(g api.Params, c api.Claim, w []uint64) []uint64 {
	var image []uint64
	for _, bases := range c.Bases {
		product := uint64(1)
		for i, base := range bases {
			product = wantProduct(g, product, wantPower(g, base, w[i]))
		}
		image = append(image, product)
	}
	return image
}

// wantSum is a + e b modulo Q; e may be below 0.
func wantSum(g api.Params, a uint64, e *big.Int, b uint64) uint64 {
	sum := new(big.Int).Mul(e, number(b))
	sum.Add(sum, number(a))
	return sum.Mod(sum, number(g.Q)).Uint64()
}

// drawn are n numbers of all sizes, others for another seed.
func drawn(seed uint64, n int) []uint64 {
	l := make([]uint64, n)
	for i := range l {
		x := seed*0x9e3779b97f4a7c15 + uint64(i+1)*0xbf58476d1ce4e5b9
		x = (x ^ x>>31) * 0x94d049bb133111eb
		l[i] = (x ^ x>>29) >> (x % 3 * 17)
	}
	return l
}

// elements are n of them, none of them 1.
func elements(g api.Params, seed uint64, n int) []uint64 {
	l := drawn(seed, n)
	for i, x := range l {
		l[i] = wantPower(g, g.G, 1+x%(g.Q-1))
	}
	return l
}

// someClaim is one with targets that are no image of anything told.
func someClaim(g api.Params, targets, n int) api.Claim {
	c := api.Claim{Targets: elements(g, 77, targets)}
	for j := range targets {
		c.Bases = append(c.Bases, elements(g, uint64(j), n))
	}
	return c
}

// heldClaim holds for w.
func heldClaim(g api.Params, targets int, w []uint64) api.Claim {
	c := someClaim(g, targets, len(w))
	c.Targets = wantImage(g, c, w)
	return c
}

// exponents are numbers about the edges at which one is taken modulo Q, and some
// between.
func exponents(g api.Params) []uint64 {
	return []uint64{
		0, 1, 2, 3, 77, g.Q - 2, g.Q - 1, g.Q, g.Q + 1, 2*g.Q - 1, 2 * g.Q, 2*g.Q + 1, g.P, 3*g.Q + 4,
		1<<32 + 5, 123456789012345678, 1 << 62, 1 << 63, 0x9e3779b97f4a7c15, greatest - 1, greatest,
	}
}

// strangers are numbers that are no elements: some would be, taken modulo P.
func strangers(g api.Params) []uint64 {
	return []uint64{0, 2, g.P - 1, g.P - g.G, g.P, g.P + 1, g.P + g.G, 2*g.P + 1, 3*g.P + g.G, 1 << 63, greatest}
}

// counts: how many targets, and how many bases.
func counts() [][2]int {
	return [][2]int{{1, 1}, {1, 2}, {2, 1}, {2, 2}, {3, 5}, {5, 3}, {64, 1}, {1, 64}}
}

func TestExample(t *testing.T) {
	g, c := small(), api.Claim{Targets: []uint64{64}, Bases: [][]uint64{{4}}}
	if got := Size(g, c); got != 1 {
		t.Errorf("Size is %d, want 1", got)
	}
	for w := range 3 * g.Q {
		if got, want := Holds(g, c, []uint64{w}), w%g.Q == 3; got != want {
			t.Errorf("Holds for %d is %t", w, got)
		}
	}
}

// TestByHand holds calls against numbers that are worked out without any helper.
func TestByHand(t *testing.T) {
	g := eleven() // the powers of 4 are 1, 4, 5, 9, 3
	c := api.Claim{Targets: []uint64{4, 3}, Bases: [][]uint64{{4, 5}, {9, 3}}}
	w, d := []uint64{2, 2}, []uint64{1, 4}
	lists := []struct {
		name string
		call func() ([]uint64, bool)
		want []uint64
	}{
		{"Image", func() ([]uint64, bool) { return Image(g, c, w) }, []uint64{4, 3}},
		{"the draws' Image", func() ([]uint64, bool) { return Image(g, c, d) }, []uint64{3, 3}},
		{"Answer", func() ([]uint64, bool) { return Answer(g, w, d, 3) }, []uint64{2, 0}},
		{"another Answer", func() ([]uint64, bool) { return Answer(g, w, d, 4) }, []uint64{4, 2}},
		{"Fake", func() ([]uint64, bool) { return Fake(g, c, 3, []uint64{2, 0}) }, []uint64{3, 3}},
		{"Draws", func() ([]uint64, bool) { return Draws(g, w, []uint64{2, 0}, 3) }, []uint64{1, 4}},
		{"Extract", func() ([]uint64, bool) { return Extract(g, 3, []uint64{2, 0}, 4, []uint64{4, 2}) }, []uint64{2, 2}},
		{"Extract by 2", func() ([]uint64, bool) { return Extract(g, 3, []uint64{1, 4}, 1, []uint64{2, 3}) }, []uint64{2, 3}},
	}
	for _, l := range lists {
		if got, ok := l.call(); !ok || !slices.Equal(got, l.want) {
			t.Errorf("%s is %d and %t, want %d", l.name, got, ok, l.want)
		}
	}
	if Size(g, c) != 2 || !Holds(g, c, w) || Holds(g, c, d) {
		t.Errorf("Size is %d, Holds for %d %t, for %d %t", Size(g, c), w, Holds(g, c, w), d, Holds(g, c, d))
	}
	if !Accepts(g, c, []uint64{3, 3}, 3, []uint64{2, 0}) || Accepts(g, c, []uint64{3, 4}, 3, []uint64{2, 0}) {
		t.Error("Accepts")
	}
}

func TestSize(t *testing.T) {
	g := small()
	edges := []int{0, 1, 2, 3, 63, 64, 65, 66, 128, 300}
	for _, targets := range edges {
		for _, n := range edges {
			want := n
			if targets == 0 || targets > 64 || n > 64 {
				want = 0
			}
			if got := Size(g, someClaim(g, targets, n)); got != want {
				t.Errorf("Size of %d targets and rows of %d is %d, want %d", targets, n, got, want)
			}
		}
	}
	for _, g := range groups() {
		for _, n := range []int{1, 64} {
			if got := Size(g, someClaim(g, 64, n)); got != n {
				t.Errorf("P %d: Size of 64 targets and rows of %d is %d", g.P, n, got)
			}
		}
	}
}

// TestOneIsAnElement: a claim may be made of 1 alone.
func TestOneIsAnElement(t *testing.T) {
	for _, g := range groups() {
		c := api.Claim{Targets: []uint64{1, 1}, Bases: [][]uint64{{1, 1, 1}, {1, 1, 1}}}
		if got := Size(g, c); got != 3 {
			t.Errorf("P %d: Size is %d, want 3", g.P, got)
		}
		if !Holds(g, c, []uint64{0, 5, greatest}) {
			t.Errorf("P %d: 1 isn't 1 to any powers", g.P)
		}
	}
}

// TestSizeAtEachNumberOfTheLeastGroup: as a target and as a base.
func TestSizeAtEachNumberOfTheLeastGroup(t *testing.T) {
	g := eleven()
	for x := range uint64(60) {
		want := 0
		if slices.Contains([]uint64{1, 3, 4, 5, 9}, x) {
			want = 1
		}
		if got := Size(g, api.Claim{Targets: []uint64{x}, Bases: [][]uint64{{4}}}); got != want {
			t.Errorf("Size with a target of %d is %d", x, got)
		}
		if got := Size(g, api.Claim{Targets: []uint64{4}, Bases: [][]uint64{{x}}}); got != want {
			t.Errorf("Size with a base of %d is %d", x, got)
		}
	}
}

// noClaims are none: for their lengths, and for a number at each place.
func noClaims(g api.Params) []api.Claim {
	a, b := g.G, g.H
	l := []api.Claim{
		{}, {Targets: []uint64{}, Bases: [][]uint64{}}, {Targets: []uint64{a}}, {Bases: [][]uint64{{a}}},
		{Targets: []uint64{a}, Bases: [][]uint64{nil}}, {Targets: []uint64{a}, Bases: [][]uint64{{}}},
		{Targets: []uint64{a, b}, Bases: [][]uint64{{}, {}}}, {Targets: []uint64{}, Bases: [][]uint64{{}}},
		{Targets: []uint64{a}, Bases: [][]uint64{{a}, {b}}}, {Targets: []uint64{a, b}, Bases: [][]uint64{{a}}},
		{Targets: []uint64{a, b}, Bases: [][]uint64{{a}, {b}, {a}}}, {Targets: []uint64{a, b, a}, Bases: [][]uint64{{a}, {b}}},
		{Targets: []uint64{a, b}, Bases: [][]uint64{{a}, {}}}, {Targets: []uint64{a, b}, Bases: [][]uint64{{}, {a}}},
		{Targets: []uint64{a, b}, Bases: [][]uint64{{a}, {a, b}}}, {Targets: []uint64{a, b}, Bases: [][]uint64{{a, b}, {a}}},
		{Targets: []uint64{a, b, a}, Bases: [][]uint64{{a, b}, {a, b, a}, {a, b}}},
		{Targets: []uint64{a, b, a}, Bases: [][]uint64{{a, b}, {a}, {a, b}}},
		someClaim(g, 65, 1), someClaim(g, 1, 65), someClaim(g, 65, 65), someClaim(g, 64, 65), someClaim(g, 2, 1000),
	}
	for _, x := range strangers(g) {
		for place := range 9 {
			c := someClaim(g, 3, 2)
			if place < 3 {
				c.Targets[place] = x
			} else {
				c.Bases[(place-3)/2][(place-3)%2] = x
			}
			l = append(l, c)
		}
	}
	return l
}

// TestStrangersAreNoElements: else the tests by them say nothing.
func TestStrangersAreNoElements(t *testing.T) {
	for _, g := range groups() {
		for _, x := range strangers(g) {
			if x > 0 && x < g.P && wantPower(g, x, g.Q) == 1 {
				t.Errorf("P %d: %d is an element", g.P, x)
			}
		}
	}
}

func refused(l []uint64, ok bool) bool { return l == nil && !ok }

func TestNoClaims(t *testing.T) {
	for _, g := range groups() {
		for i, c := range noClaims(g) {
			if got := Size(g, c); got != 0 {
				t.Errorf("P %d, claim %d: Size is %d", g.P, i, got)
			}
			for _, n := range []int{0, 1, 2, 3, 64, 65, 1000} {
				w := drawn(5, n)
				if l, ok := Image(g, c, w); !refused(l, ok) {
					t.Errorf("P %d, claim %d: Image of %d exponents is %d and %t", g.P, i, n, l, ok)
				}
				if Holds(g, c, w) {
					t.Errorf("P %d, claim %d: Holds for %d exponents", g.P, i, n)
				}
				if l, ok := Fake(g, c, 3, w); !refused(l, ok) {
					t.Errorf("P %d, claim %d: Fake of %d answers is %d and %t", g.P, i, n, l, ok)
				}
				for _, m := range []int{0, len(c.Targets), len(c.Bases), 1} {
					if Accepts(g, c, elements(g, 3, m), 3, w) || Accepts(g, c, slices.Repeat([]uint64{1}, m), 0, w) {
						t.Errorf("P %d, claim %d: Accepts a t of %d and %d answers", g.P, i, m, n)
					}
				}
			}
		}
	}
}

// TestAStrangerWhereAllElseHolds: a target and a base that would do, taken modulo
// P, and a base of power 0, which counts for nothing in the product.
func TestAStrangerWhereAllElseHolds(t *testing.T) {
	for _, g := range groups() {
		for _, c := range []api.Claim{
			{Targets: []uint64{g.G + g.P}, Bases: [][]uint64{{g.G, g.H}}},
			{Targets: []uint64{g.G}, Bases: [][]uint64{{g.G + g.P, g.H}}},
			{Targets: []uint64{g.G}, Bases: [][]uint64{{g.G, g.H + g.P}}},
			{Targets: []uint64{g.G}, Bases: [][]uint64{{g.G, 2}}},
			{Targets: []uint64{g.G}, Bases: [][]uint64{{g.G, 0}}},
		} {
			w, d := []uint64{1, 0}, []uint64{2, 0}
			z, _ := Answer(g, w, d, 3)
			if Holds(g, c, w) || Accepts(g, c, []uint64{wantPower(g, g.G, 2)}, 3, z) {
				t.Errorf("P %d: Holds is %t with targets %d and bases %d", g.P, Holds(g, c, w), c.Targets, c.Bases)
			}
		}
	}
}

// TestExponentsThatDoNotFit: all powers of 1 are 1, so that the lengths alone are
// why nothing holds.
func TestExponentsThatDoNotFit(t *testing.T) {
	for _, g := range groups() {
		for _, count := range counts() {
			ones := func(n int) []uint64 { return slices.Repeat([]uint64{1}, n) }
			c := api.Claim{Targets: ones(count[0])}
			for range count[0] {
				c.Bases = append(c.Bases, ones(count[1]))
			}
			for _, n := range []int{0, 1, 2, 3, 4, 5, 6, 63, 64, 65, 128} {
				fits := n == count[1]
				w := drawn(9, n)
				image, ok := Image(g, c, w)
				if ok != fits || !fits && image != nil || fits && !slices.Equal(image, c.Targets) {
					t.Errorf("P %d, %d: Image of %d exponents is %d and %t", g.P, count, n, image, ok)
				}
				faked, ok := Fake(g, c, 3, w)
				if ok != fits || !fits && faked != nil || fits && !slices.Equal(faked, c.Targets) {
					t.Errorf("P %d, %d: Fake of %d answers is %d and %t", g.P, count, n, faked, ok)
				}
				if holds, accepted := Holds(g, c, w), Accepts(g, c, c.Targets, 3, w); holds != fits || accepted != fits {
					t.Errorf("P %d, %d: of %d exponents Holds is %t, Accepts %t", g.P, count, n, holds, accepted)
				}
			}
		}
	}
}

// TestTheTThatIsNotAsTold: of another length, or with a number that is no element,
// though it would do, taken modulo P.
func TestTheTThatIsNotAsTold(t *testing.T) {
	for _, g := range groups() {
		for _, count := range counts() {
			w, d := drawn(1, count[1]), drawn(2, count[1])
			c := heldClaim(g, count[0], w)
			x := wantImage(g, c, d)
			z, _ := Answer(g, w, d, 3)
			if !Accepts(g, c, x, 3, z) {
				t.Errorf("P %d, %d: a real talk isn't accepted", g.P, count)
			}
			for _, other := range [][]uint64{nil, {}, x[:len(x)-1], append(slices.Clone(x), 1), append(slices.Clone(x), x...)} {
				if Accepts(g, c, other, 3, z) {
					t.Errorf("P %d, %d: a t of %d numbers is accepted", g.P, count, len(other))
				}
			}
			for j := range x {
				for _, stranger := range append(strangers(g), x[j]+g.P, x[j]+2*g.P, g.P-x[j], wantPower(g, x[j], 2), wantProduct(g, x[j], g.G)) {
					other := slices.Clone(x)
					other[j] = stranger
					if stranger != x[j] && Accepts(g, c, other, 3, z) {
						t.Errorf("P %d, %d: a t with %d in place of %d is accepted", g.P, count, stranger, x[j])
					}
				}
			}
		}
	}
}

func TestImage(t *testing.T) {
	for _, g := range groups() {
		for _, count := range counts() {
			c := someClaim(g, count[0], count[1])
			for _, e := range exponents(g) {
				for i, w := range [][]uint64{slices.Repeat([]uint64{e}, count[1]), drawn(e, count[1])} {
					w[i%len(w)] = e
					want := wantImage(g, c, w)
					if got, ok := Image(g, c, w); !ok || !slices.Equal(got, want) {
						t.Errorf("P %d, %d: Image of %d is %d and %t, want %d", g.P, count, w, got, ok, want)
					}
					if got := Holds(g, c, w); got != slices.Equal(want, c.Targets) {
						t.Errorf("P %d, %d: Holds for %d is %t", g.P, count, w, got)
					}
				}
			}
		}
	}
}

// TestTheGreatestClaim: 64 targets of 64 bases each.
func TestTheGreatestClaim(t *testing.T) {
	g, w := largest(), drawn(1, 64)
	c := heldClaim(g, 64, w)
	if Size(g, c) != 64 || !Holds(g, c, w) {
		t.Error("it doesn't hold")
	}
	checkTalk(t, g, c, w, drawn(2, 64), greatest)
}

// TestHolds: of each place of the exponents, and at each target.
func TestHolds(t *testing.T) {
	for _, g := range groups() {
		for _, count := range counts() {
			w := drawn(4, count[1])
			c := heldClaim(g, count[0], w)
			if !Holds(g, c, w) {
				t.Errorf("P %d, %d: it doesn't hold for %d", g.P, count, w)
			}
			for i := range w {
				other := slices.Clone(w)
				other[i] = other[i]%g.Q + g.Q
				if !Holds(g, c, other) {
					t.Errorf("P %d, %d: it doesn't hold for %d, but for %d", g.P, count, other, w)
				}
				other[i]++
				if Holds(g, c, other) {
					t.Errorf("P %d, %d: it holds for %d and %d", g.P, count, other, w)
				}
			}
			for j := range c.Targets {
				other := api.Claim{Targets: slices.Clone(c.Targets), Bases: c.Bases}
				other.Targets[j] = wantProduct(g, other.Targets[j], g.G)
				if Holds(g, other, w) {
					t.Errorf("P %d, %d: it holds for another target at %d", g.P, count, j)
				}
			}
		}
	}
}

// threes goes through all lists of three exponents.
func threes(g api.Params, call func(a, b, e uint64)) {
	for _, a := range exponents(g) {
		for _, b := range exponents(g) {
			for _, e := range exponents(g) {
				call(a, b, e)
			}
		}
	}
}

func TestAnswer(t *testing.T) {
	for _, g := range groups() {
		threes(g, func(w, d, e uint64) {
			want := []uint64{wantSum(g, d, number(e), w), wantSum(g, w, number(e), d), wantSum(g, 5, number(e), 3)}
			if got, ok := Answer(g, []uint64{w, d, 3}, []uint64{d, w, 5}, e); !ok || !slices.Equal(got, want) {
				t.Errorf("Q %d: Answer of %d and %d to %d is %d and %t, want %d", g.Q, w, d, e, got, ok, want)
			}
		})
	}
}

func TestDraws(t *testing.T) {
	for _, g := range groups() {
		threes(g, func(w, z, e uint64) {
			less := new(big.Int).Neg(number(e))
			want := []uint64{wantSum(g, z, less, w), wantSum(g, w, less, z), wantSum(g, 5, less, 3)}
			if got, ok := Draws(g, []uint64{w, z, 3}, []uint64{z, w, 5}, e); !ok || !slices.Equal(got, want) {
				t.Errorf("Q %d: Draws of %d and %d at %d is %d and %t, want %d", g.Q, w, z, e, got, ok, want)
			}
		})
	}
}

func wantExtracted(g api.Params, e, z, f, y uint64) uint64 {
	below := new(big.Int).Sub(number(e), number(f))
	below.ModInverse(below.Mod(below, number(g.Q)), number(g.Q))
	above := new(big.Int).Sub(number(z), number(y))
	return above.Mod(above.Mul(above, below), number(g.Q)).Uint64()
}

func TestExtract(t *testing.T) {
	for _, g := range groups() {
		threes(g, func(z, e, f uint64) {
			for _, y := range []uint64{0, 7, g.Q - 1, g.Q, greatest} {
				got, ok := Extract(g, e, []uint64{z, y, y}, f, []uint64{y, z, y})
				if e%g.Q == f%g.Q {
					if !refused(got, ok) {
						t.Errorf("Q %d: Extract of the challenges %d and %d is %d and %t", g.Q, e, f, got, ok)
					}
					continue
				}
				want := []uint64{wantExtracted(g, e, z, f, y), wantExtracted(g, e, y, f, z), 0}
				if !ok || !slices.Equal(got, want) {
					t.Errorf("Q %d: Extract(%d, %d, %d, %d) is %d and %t, want %d", g.Q, e, z, f, y, got, ok, want)
				}
			}
		})
	}
}

// TestListsOfAnyLength: Answer, Draws and Extract know no claim, and so take lists
// of none and of more than 64 as well, but as many of both.
func TestListsOfAnyLength(t *testing.T) {
	for _, g := range groups() {
		for _, n := range []int{0, 1, 2, 3, 64, 65, 1000} {
			for _, m := range []int{0, 1, 2, 3, 64, 65, 1000} {
				a, b := drawn(1, n), drawn(2, m)
				answers, ok1 := Answer(g, a, b, 3)
				draws, ok2 := Draws(g, a, b, 3)
				found, ok3 := Extract(g, 3, a, 1, b)
				for i, got := range [][]uint64{answers, draws, found} {
					ok := []bool{ok1, ok2, ok3}[i]
					if n != m && !refused(got, ok) || n == m && (!ok || len(got) != n) {
						t.Errorf("Q %d: call %d of %d and %d numbers answers %d and %t", g.Q, i, n, m, got, ok)
					}
				}
				for i := range min(len(answers), len(draws), len(found)) {
					if answers[i] != wantSum(g, b[i], big.NewInt(3), a[i]) || draws[i] != wantSum(g, b[i], big.NewInt(-3), a[i]) ||
						found[i] != wantExtracted(g, 3, a[i], 1, b[i]) {
						t.Errorf("Q %d: of %d and %d at %d: %d, %d, %d", g.Q, a[i], b[i], i, answers[i], draws[i], found[i])
					}
				}
			}
		}
	}
}

// TestNoLists: a nil list is one of none.
func TestNoLists(t *testing.T) {
	g := small()
	for _, a := range [][]uint64{nil, {}} {
		for _, b := range [][]uint64{nil, {}} {
			answers, ok1 := Answer(g, a, b, 3)
			draws, ok2 := Draws(g, a, b, 3)
			found, ok3 := Extract(g, 3, a, 1, b)
			if !ok1 || !ok2 || !ok3 || len(answers)+len(draws)+len(found) > 0 {
				t.Errorf("of no numbers: %d %t, %d %t, %d %t", answers, ok1, draws, ok2, found, ok3)
			}
		}
	}
}

// TestOneChallenge: the same, and the same modulo Q alone.
func TestOneChallenge(t *testing.T) {
	for _, g := range groups() {
		for _, e := range []uint64{0, 1, 10, g.Q - 1, g.Q, g.Q + 10, 1 << 62} {
			for _, f := range []uint64{e, e + g.Q, e + 2*g.Q, e % g.Q} {
				for _, n := range []int{0, 1, 3} {
					for _, m := range []int{0, 1, 3} {
						if l, ok := Extract(g, e, drawn(1, n), f, drawn(2, m)); !refused(l, ok) {
							t.Errorf("Q %d: Extract of the challenges %d and %d is %d and %t", g.Q, e, f, l, ok)
						}
						if l, ok := Extract(g, f, drawn(1, n), e, drawn(2, m)); !refused(l, ok) {
							t.Errorf("Q %d: Extract of the challenges %d and %d is %d and %t", g.Q, f, e, l, ok)
						}
					}
				}
				if _, ok := Extract(g, e, []uint64{5}, f+1, []uint64{5}); !ok {
					t.Errorf("Q %d: Extract of the challenges %d and %d is refused", g.Q, e, f+1)
				}
			}
		}
		if _, ok := Extract(g, greatest, nil, greatest%g.Q, nil); ok {
			t.Errorf("Q %d: Extract takes the greatest number for another challenge", g.Q)
		}
	}
}

// checkTalk makes the talk of w, d and e, and holds it against all that is
// promised of a talk alone.
func checkTalk(t *testing.T, g api.Params, c api.Claim, w, d []uint64, e uint64) {
	t.Helper()
	x, ok1 := Image(g, c, d)
	z, ok2 := Answer(g, w, d, e)
	if !ok1 || !ok2 || !Accepts(g, c, x, e, z) {
		t.Errorf("P %d: the talk of %d, %d and %d isn't accepted", g.P, w, d, e)
	}
	if got, ok := Fake(g, c, e, z); !ok || !slices.Equal(got, x) {
		t.Errorf("P %d: Fake of %d and %d is %d and %t, want %d", g.P, e, z, got, ok, x)
	}
	again := make([]uint64, len(d))
	for i := range d {
		again[i] = d[i] % g.Q
	}
	if got, ok := Draws(g, w, z, e); !ok || !slices.Equal(got, again) {
		t.Errorf("P %d: Draws of %d and %d at %d is %d and %t, want %d", g.P, w, z, e, got, ok, again)
	}
}

func TestTalksAreAccepted(t *testing.T) {
	for _, g := range groups() {
		for _, count := range counts() {
			for k, edge := range exponents(g) {
				w := drawn(uint64(k), count[1])
				w[k%len(w)] = edge
				c := heldClaim(g, count[0], w)
				for i, e := range exponents(g) {
					d := drawn(uint64(i)+50, count[1])
					d[i%len(d)] = exponents(g)[(i+k)%len(exponents(g))]
					checkTalk(t, g, c, w, d, e)
				}
			}
		}
	}
}

// TestEachTalkOfTheLeastGroup goes through all exponents, draws and challenges of
// one target and two bases.
func TestEachTalkOfTheLeastGroup(t *testing.T) {
	g := eleven()
	for n := range g.Q * g.Q * g.Q * g.Q * g.Q {
		digit := func() uint64 { d := n % g.Q; n /= g.Q; return d }
		w, d, e := []uint64{digit(), digit()}, []uint64{digit(), digit()}, digit()
		c := api.Claim{Targets: []uint64{0}, Bases: [][]uint64{{4, 3}}}
		c.Targets = wantImage(g, c, w)
		checkTalk(t, g, c, w, d, e)
	}
}

// TestOtherTalksAreNot: no base and no target is 1 here, so that another answer
// makes another image, and another challenge another power.
func TestOtherTalksAreNot(t *testing.T) {
	for _, g := range groups() {
		for _, count := range counts() {
			w, d := drawn(6, count[1]), drawn(7, count[1])
			c := heldClaim(g, count[0], w)
			for _, e := range exponents(g) {
				x, _ := Image(g, c, d)
				z, _ := Answer(g, w, d, e)
				for i := range z {
					other := slices.Clone(z)
					other[i] += g.Q
					if !Accepts(g, c, x, e, other) {
						t.Errorf("P %d, %d: an answer that has Q more isn't accepted", g.P, count)
					}
					other[i]++
					if Accepts(g, c, x, e, other) {
						t.Errorf("P %d, %d: another answer at %d is accepted", g.P, count, i)
					}
				}
				if e%g.Q+g.Q != e && !Accepts(g, c, x, e%g.Q+g.Q, z) {
					t.Errorf("P %d, %d: the challenge %d isn't taken modulo Q", g.P, count, e)
				}
				if !allOnes(c.Targets) && Accepts(g, c, x, e%g.Q+1, z) {
					t.Errorf("P %d, %d: what answers %d is accepted of another challenge", g.P, count, e)
				}
			}
		}
	}
}

func allOnes(l []uint64) bool {
	return !slices.ContainsFunc(l, func(x uint64) bool { return x != 1 })
}

// TestEachTargetCounts: a talk that is wrong at one target alone isn't accepted.
func TestEachTargetCounts(t *testing.T) {
	for _, g := range groups() {
		w, d := drawn(6, 3), drawn(7, 3)
		c := heldClaim(g, 64, w)
		x, _ := Image(g, c, d)
		z, _ := Answer(g, w, d, 3)
		for j := range x {
			other := slices.Clone(x)
			other[j] = wantProduct(g, other[j], g.G)
			wrong := api.Claim{Targets: slices.Clone(c.Targets), Bases: c.Bases}
			wrong.Targets[j] = wantProduct(g, wrong.Targets[j], g.G)
			if Accepts(g, c, other, 3, z) || Accepts(g, wrong, x, 3, z) {
				t.Errorf("P %d: a talk that is wrong at %d is accepted", g.P, j)
			}
		}
	}
}

func TestTwoTalksGiveTheExponents(t *testing.T) {
	for _, g := range groups() {
		for _, count := range counts() {
			w, d := drawn(6, count[1]), drawn(7, count[1])
			c := heldClaim(g, count[0], w)
			for _, e := range exponents(g) {
				for _, f := range exponents(g) {
					z, _ := Answer(g, w, d, e)
					y, _ := Answer(g, w, d, f)
					got, ok := Extract(g, e, z, f, y)
					if ok != (e%g.Q != f%g.Q) {
						t.Errorf("P %d, %d: Extract of %d and %d is %t", g.P, count, e, f, ok)
					}
					if ok && !Holds(g, c, got) {
						t.Errorf("P %d, %d: at %d and %d it is %d, for which the claim doesn't hold", g.P, count, e, f, got)
					}
				}
			}
		}
	}
}

// TestTwoTalksOfUnlikeExponents: who knows several that do may answer by one and
// by the other; what is given away is a third that does.
func TestTwoTalksOfUnlikeExponents(t *testing.T) {
	for _, g := range groups() {
		// G to the 2, and to the 3, so that 3 more of one and 2 less of the other do.
		c := api.Claim{Targets: []uint64{wantPower(g, g.G, 14)}, Bases: [][]uint64{{wantPower(g, g.G, 2), wantPower(g, g.G, 3)}}}
		v, w, d := []uint64{1, 4}, []uint64{4, 2}, []uint64{greatest, 12}
		// One draw and another that have one image.
		b := []uint64{greatest%g.Q + 3, 12 + g.Q - 2}
		x, _ := Image(g, c, d)
		z, _ := Answer(g, v, d, 1)
		y, _ := Answer(g, w, b, 3)
		if !Accepts(g, c, x, 1, z) || !Accepts(g, c, x, 3, y) {
			t.Errorf("P %d: the talks aren't accepted", g.P)
		}
		if got, ok := Extract(g, 1, z, 3, y); !ok || !Holds(g, c, got) || slices.Equal(got, v) || slices.Equal(got, w) {
			t.Errorf("P %d: Extract is %d and %t", g.P, got, ok)
		}
	}
}

// TestEachTwoTalksOfTheLeastGroup goes through all that are accepted, however they
// came about, of claims that hold for much, for one, and for nothing.
func TestEachTwoTalksOfTheLeastGroup(t *testing.T) {
	g := eleven()
	for _, c := range []api.Claim{
		{Targets: []uint64{5}, Bases: [][]uint64{{4, 9}}},
		{Targets: []uint64{5}, Bases: [][]uint64{{1, 9}}},
		{Targets: []uint64{5}, Bases: [][]uint64{{1, 1}}},
		{Targets: []uint64{1}, Bases: [][]uint64{{3, 1}}},
		{Targets: []uint64{3, 9}, Bases: [][]uint64{{4, 5}, {9, 3}}},
		{Targets: []uint64{3, 9}, Bases: [][]uint64{{4, 5}, {5, 3}}},
	} {
		type talk struct {
			e uint64
			z []uint64
		}
		accepted := map[uint64][]talk{}
		elements := []uint64{1, 3, 4, 5, 9}
		for n := range uint64(5 * 5 * 5 * 25) {
			x := []uint64{elements[n%5], elements[n/5%5]}[:len(c.Targets)]
			e, z := n/25%5, []uint64{n / 125 % 5, n / 625}
			if Accepts(g, c, x, e, z) {
				accepted[n%25] = append(accepted[n%25], talk{e, z})
			}
		}
		if len(accepted) == 0 {
			t.Errorf("nothing is accepted of %d", c)
		}
		for _, l := range accepted {
			for _, a := range l {
				for _, b := range l {
					got, ok := Extract(g, a.e, a.z, b.e, b.z)
					if ok != (a.e != b.e) || ok && !Holds(g, c, got) {
						t.Errorf("Extract of %d and %d of %d is %d and %t", a, b, c, got, ok)
					}
				}
			}
		}
	}
}

// TestFakedIsAccepted: also of a claim that nobody knows exponents of, and no
// other t is, at any place.
func TestFakedIsAccepted(t *testing.T) {
	for _, g := range groups() {
		for _, count := range counts() {
			c := someClaim(g, count[0], count[1])
			for i, e := range exponents(g) {
				z := drawn(uint64(i), count[1])
				z[i%len(z)] = exponents(g)[(i*5+2)%len(exponents(g))]
				want := wantImage(g, c, z)
				for j, target := range c.Targets {
					want[j] = wantOver(g, want[j], wantPower(g, target, e))
				}
				got, ok := Fake(g, c, e, z)
				if !ok || !slices.Equal(got, want) {
					t.Errorf("P %d, %d: Fake of %d and %d is %d and %t, want %d", g.P, count, e, z, got, ok, want)
					continue
				}
				if !Accepts(g, c, got, e, z) {
					t.Errorf("P %d, %d: what is faked of %d and %d isn't accepted", g.P, count, e, z)
				}
				got[i%len(got)] = wantProduct(g, got[i%len(got)], g.H)
				if Accepts(g, c, got, e, z) {
					t.Errorf("P %d, %d: another t than is faked of %d and %d is accepted", g.P, count, e, z)
				}
			}
		}
	}
}

// TestAClaimForNobody holds for nothing, and its talk is faked all the same.
func TestAClaimForNobody(t *testing.T) {
	for _, g := range groups() {
		c := api.Claim{Targets: []uint64{g.G, g.H}, Bases: [][]uint64{{1, 1}, {1, 1}}}
		for _, e := range exponents(g) {
			z := drawn(e, 2)
			x, ok := Fake(g, c, e, z)
			if !ok || Holds(g, c, z) || !Accepts(g, c, x, e, z) {
				t.Errorf("P %d: Fake of %d and %d is %d and %t", g.P, e, z, x, ok)
			}
			if Accepts(g, c, x, e%g.Q+1, z) {
				t.Errorf("P %d: what is faked of %d is accepted of one more", g.P, e)
			}
		}
	}
}

// brokenGroups aren't right, in ways that may break a call.
func brokenGroups() []api.Params {
	l := []api.Params{{}, {P: greatest, Q: greatest, G: greatest, H: greatest}, {P: 15, Q: 7, G: 3, H: 5}, {P: 12, Q: 6, G: 6, H: 4}, {P: 15, Q: 4, G: 2, H: 8}}
	edges := []uint64{0, 1, 2, 3, 4, 11, 1<<62 - 1, api.MostMod, api.MostMod + 1, 1 << 63, greatest - 1, greatest}
	for _, p := range edges {
		for _, q := range edges {
			l = append(l,
				api.Params{P: p, Q: q, G: 4, H: 9, Rows: eleven().Rows},
				api.Params{P: p, Q: q, G: greatest, H: 0, Rows: []api.Row{{}, row(greatest, greatest, greatest)}},
			)
		}
	}
	return l
}

// callAll calls with a claim, and with lists that go with it.
func callAll(g api.Params, c api.Claim, l []uint64, e, f uint64) {
	Size(g, c)
	Image(g, c, l)
	Holds(g, c, l)
	Answer(g, l, l, e)
	Answer(g, l, nil, e)
	Accepts(g, c, c.Targets, e, l)
	Accepts(g, c, l, e, l)
	Accepts(g, c, nil, e, l)
	Fake(g, c, e, l)
	Draws(g, l, l, e)
	Draws(g, nil, l, e)
	Extract(g, e, l, f, l)
	Extract(g, e, l, f, c.Targets)
	Extract(g, e, nil, f, nil)
}

func ends(g api.Params, c api.Claim, l []uint64, e, f uint64) (ok bool) {
	defer func() { ok = recover() == nil }()
	callAll(g, c, l, e, f)
	return
}

// TestEveryCallEnds: of groups that aren't right, and of numbers that are no
// elements of a right one, something is answered.
func TestEveryCallEnds(t *testing.T) {
	for _, g := range slices.Concat(brokenGroups(), groups()) {
		numbers := []uint64{0, 1, 2, 5, g.P - 1, g.P, g.Q, 1 << 62, greatest}
		for _, a := range numbers {
			for _, b := range numbers {
				claims := []api.Claim{
					{Targets: []uint64{a}, Bases: [][]uint64{{b}}},
					{Targets: []uint64{a, b}, Bases: [][]uint64{{b, b}, {a, a}}},
				}
				for _, c := range claims {
					for _, e := range numbers {
						if l := []uint64{e, b}[:len(c.Targets)]; !ends(g, c, l, e, a) {
							t.Fatalf("P %d, Q %d: a call of %d, %d, %d and %d panics", g.P, g.Q, c, l, e, a)
						}
					}
				}
			}
		}
	}
}

// TestEveryCallEndsOfAnyLengths: also of claims that have no room for what is
// handed in with them.
func TestEveryCallEndsOfAnyLengths(t *testing.T) {
	var claims [3][]api.Claim
	for i, g := range groups() {
		claims[i] = append(noClaims(g), someClaim(g, 64, 64))
	}
	for i, g := range slices.Concat(groups(), brokenGroups()) {
		for _, c := range claims[i%3] {
			for _, n := range []int{0, 1, 2, 64, 65} {
				if l := drawn(uint64(i), n); !ends(g, c, l, greatest, g.Q) {
					t.Fatalf("P %d, Q %d: a call of %d and %d panics", g.P, g.Q, c, l)
				}
			}
		}
	}
}

// TestLongLists: however long they are, what is no claim is told by its lengths,
// and lists of exponents are gone through once.
func TestLongLists(t *testing.T) {
	g := largest()
	l := slices.Repeat([]uint64{g.G, greatest, 9, 0}, 50000)
	for _, c := range []api.Claim{
		{Targets: l, Bases: [][]uint64{{4}}},
		{Targets: l, Bases: make([][]uint64, len(l))},
		{Targets: []uint64{4}, Bases: [][]uint64{l}},
		{Targets: []uint64{4}, Bases: make([][]uint64, len(l))},
	} {
		if Size(g, c) != 0 || Holds(g, c, l) || Accepts(g, c, l, 3, l) {
			t.Error("a long list is taken for a claim's")
		}
	}
	z, _ := Answer(g, l, l, greatest)
	if d, ok := Draws(g, l, z, greatest); !ok || len(d) != len(l) || d[1] != greatest%g.Q || d[len(d)-2] != 9 {
		t.Errorf("Draws of a long list is %t", ok)
	}
}

// withRoom answers l with room behind it, which is not to be written to.
func withRoom(l []uint64) (list, all []uint64) {
	all = append(slices.Clone(l), 4, 9, 16)
	return all[:len(l)], all
}

func TestWhatIsHandedInStays(t *testing.T) {
	makers := []func() api.Params{eleven, small, largest, func() api.Params { return brokenGroups()[0] }, func() api.Params { return brokenGroups()[2] }}
	for _, groupOf := range makers {
		g := groupOf()
		of := g
		if !group.Right(g) {
			of = eleven()
		}
		c, before := someClaim(of, 3, 2), someClaim(of, 3, 2)
		targets, allTargets := withRoom(c.Targets)
		c.Targets = targets
		first, allFirst := withRoom(c.Bases[0])
		c.Bases[0] = first
		w, allW := withRoom(drawn(1, 2))
		z, allZ := withRoom(drawn(2, 2))
		x, allX := withRoom(elements(of, 5, 3))
		copies := [][]uint64{slices.Clone(allTargets), slices.Clone(allFirst), slices.Clone(allW), slices.Clone(allZ), slices.Clone(allX)}
		callAll(g, c, w, 3, 4)
		Answer(g, w, z, 3)
		Draws(g, w, z, 3)
		Extract(g, 3, w, 2, z)
		Accepts(g, c, x, 3, z)
		Fake(g, c, 0, z)
		for i, all := range [][]uint64{allTargets, allFirst, allW, allZ, allX} {
			if !slices.Equal(all, copies[i]) {
				t.Errorf("P %d: list %d has become %d", g.P, i, all)
			}
		}
		if !reflect.DeepEqual(c, before) || !reflect.DeepEqual(g, groupOf()) {
			t.Errorf("P %d: the claim or the group was changed", g.P)
		}
	}
}

// TestAnswersAreNewMemory: who writes to what is answered changes neither what was
// handed in nor what is answered next.
func TestAnswersAreNewMemory(t *testing.T) {
	for _, g := range groups() {
		c, w, d := someClaim(g, 2, 2), []uint64{1, 0}, []uint64{3, 4}
		calls := []func() ([]uint64, bool){
			func() ([]uint64, bool) { return Image(g, c, w) },
			func() ([]uint64, bool) { return Answer(g, w, d, 0) },
			func() ([]uint64, bool) { return Answer(g, w, []uint64{0, 0}, 1) },
			func() ([]uint64, bool) { return Fake(g, c, 0, w) },
			func() ([]uint64, bool) { return Draws(g, w, d, 0) },
			func() ([]uint64, bool) { return Extract(g, 1, w, 0, []uint64{0, 0}) },
		}
		for i, call := range calls {
			first, _ := call()
			kept := slices.Clone(first)
			second, _ := call()
			for j := range second[:cap(second)] {
				second[:cap(second)][j] = 12345
			}
			third, _ := call()
			if !slices.Equal(first, kept) || !slices.Equal(third, kept) {
				t.Errorf("P %d: call %d answered %d, which became %d, and then %d", g.P, i, kept, first, third)
			}
		}
		if !reflect.DeepEqual(c, someClaim(g, 2, 2)) || !slices.Equal(w, []uint64{1, 0}) || !slices.Equal(d, []uint64{3, 4}) {
			t.Errorf("P %d: what was handed in has become %d, %d, %d", g.P, c, w, d)
		}
	}
}

// TestOneAnswer: calls ahead change nothing.
func TestOneAnswer(t *testing.T) {
	g := small()
	c, w := someClaim(g, 3, 2), []uint64{500, 77}
	first, _ := Fake(g, c, 10, w)
	for _, other := range slices.Concat(groups(), brokenGroups()) {
		callAll(other, c, w, 3, greatest)
		if got, ok := Fake(g, c, 10, w); !ok || !slices.Equal(got, first) {
			t.Fatalf("%d has become %d", first, got)
		}
	}
}
