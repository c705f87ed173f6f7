package gamal

import (
	"math"
	"math/big"
	"reflect"
	"slices"
	"testing"

	"spandrel/api"
	"spandrel/group"
)

const most = math.MaxUint64

func row(n, a uint64, factors ...uint64) api.Row {
	return api.Row{N: n, A: a, Factors: factors}
}

// eleven has the least P of all groups.
func eleven() api.Params {
	return api.Params{P: 11, Q: 5, G: 4, H: 9, Rows: []api.Row{row(5, 2, 2), row(11, 2, 2, 5)}}
}

// small is the chapter's group.
func small() api.Params {
	return api.Params{P: 2027, Q: 1013, G: 4, H: 9, Rows: []api.Row{
		row(5, 2, 2), row(11, 2, 2, 5), row(23, 5, 2, 11), row(1013, 3, 2, 11, 23), row(2027, 2, 2, 1013),
	}}
}

// largest has the greatest P that a group may have: no other one is so near to
// MostMod. Its G is above half of P, so that no product fits into 64 bits.
func largest() api.Params {
	return api.Params{P: 1<<62 - 10565, Q: 1<<61 - 5283, G: 1<<62 - 10567, H: 9, Rows: []api.Row{
		row(3, 2, 2), row(5, 2, 2), row(7, 3, 2, 3), row(11, 2, 2, 5), row(2311, 3, 2, 3, 5, 7, 11),
		row(73, 5, 2, 3), row(17, 3, 2), row(23, 5, 2, 11), row(41, 6, 2, 5), row(821, 2, 2, 5, 41),
		row(172411, 3, 2, 3, 5, 7, 821), row(7930907, 2, 2, 23, 172411),
		row(11864636873, 5, 2, 11, 17, 7930907), row(1732236983459, 2, 2, 73, 11864636873),
		row(249442125618097, 5, 2, 3, 1732236983459),
		row(1<<61-5283, 2, 2, 2311, 249442125618097),
		row(1<<62-10565, 2, 2, 1<<61-5283),
	}}
}

func groups() []api.Params { return []api.Params{eleven(), small(), largest()} }

// TestGroupsOfTheTestsAreRight: the chapter speaks of groups that are right alone.
func TestGroupsOfTheTestsAreRight(t *testing.T) {
	for _, g := range groups() {
		if !group.Right(g) {
			t.Errorf("the group of %d isn't right", g.P)
		}
	}
}

func number(x uint64) *big.Int { return new(big.Int).SetUint64(x) }

func wantPower(g api.Params, x, e uint64) uint64 {
	return new(big.Int).Exp(number(x), number(e), number(g.P)).Uint64()
}

func wantProduct(g api.Params, l ...uint64) uint64 {
	product := big.NewInt(1)
	for _, x := range l {
		product.Mul(product, number(x))
	}
	return product.Mod(product, number(g.P)).Uint64()
}

// wantOver works by the little theorem of Fermat, as P is a prime.
func wantOver(g api.Params, x, y uint64) uint64 {
	return wantProduct(g, x, wantPower(g, y, g.P-2))
}

// wantSum adds exponents as numbers of any size, so that no sum wraps round.
func wantSum(g api.Params, l []uint64) uint64 {
	sum := new(big.Int)
	for _, x := range l {
		sum.Add(sum, number(x))
	}
	return sum.Mod(sum, number(g.Q)).Uint64()
}

func wantSealed(g api.Params, y, m, r uint64) api.Pair {
	return api.Pair{U: wantPower(g, g.G, r), V: wantProduct(g, m, wantPower(g, y, r))}
}

// exponents are numbers about the edges at which an exponent is taken modulo Q,
// and some between.
func exponents(g api.Params) []uint64 {
	return []uint64{
		0, 1, 2, 3, 77, g.Q - 2, g.Q - 1, g.Q, g.Q + 1, g.Q + 2, 2*g.Q - 1, 2 * g.Q, 2*g.Q + 1, g.P, 3*g.Q + 4,
		1<<32 + 5, 123456789012345678, 1 << 62, 1 << 63, 0x9e3779b97f4a7c15, most - 1, most,
	}
}

// elements are all of the least group, and some of another one.
func elements(g api.Params) []uint64 {
	var l []uint64
	for i := range uint64(5) {
		l = append(l, wantPower(g, g.G, i))
	}
	for i := range uint64(10) {
		l = append(l, wantPower(g, 9, (i+1)*0x9e3779b97f4a7c15))
	}
	return l
}

func TestExample(t *testing.T) {
	g := small()
	if got, want := Seal(g, 1, 1, 1), (api.Pair{U: 4, V: 1}); got != want {
		t.Errorf("Seal of 1 for 1 by 1 is %v, want %v", got, want)
	}
}

// TestByHand holds calls against numbers that are worked out without any helper.
func TestByHand(t *testing.T) {
	g := eleven() // the powers of 4 are 1, 4, 5, 9, 3
	for _, c := range []struct {
		name      string
		got, want any
	}{
		{"Key(3)", Key(g, 3), uint64(9)},
		{"Join(4, 5, 9)", Join(g, []uint64{4, 5, 9}), uint64(4)},
		{"Seal of 5 for 9 by 2", Seal(g, 9, 5, 2), api.Pair{U: 5, V: 9}},
		{"Again of (5, 9) for 9 by 4", Again(g, 9, api.Pair{U: 5, V: 9}, 4), api.Pair{U: 4, V: 1}},
		{"Share(3) of (4, 1)", Share(g, 3, api.Pair{U: 4, V: 1}), uint64(9)},
		{"Open of (4, 1) by 9", Open(g, api.Pair{U: 4, V: 1}, []uint64{9}), uint64(5)},
		{"Enter of (4, 1)", Enter(api.Pair{U: 4, V: 1}), api.Three{U: 4, W: 1, V: 1}},
		{"Cross of (4, 5, 1) by 3 to 3 by 2", Cross(g, 3, 3, api.Three{U: 4, W: 5, V: 1}, 2), api.Three{U: 4, W: 3, V: 1}},
		{"Leave of (4, 5, 1)", Leave(api.Three{U: 4, W: 5, V: 1}), api.Pair{U: 5, V: 1}},
	} {
		if c.got != c.want {
			t.Errorf("%s is %v, want %v", c.name, c.got, c.want)
		}
	}
}

func TestKey(t *testing.T) {
	for _, g := range groups() {
		for _, x := range exponents(g) {
			if got, want := Key(g, x), wantPower(g, g.G, x); got != want {
				t.Errorf("P %d: Key(%d) is %d, want %d", g.P, x, got, want)
			}
		}
		for x, want := range map[uint64]uint64{
			0: 1, 1: g.G, 2: wantProduct(g, g.G, g.G), g.Q: 1, g.Q + 1: g.G, 2 * g.Q: 1, 2*g.Q + 1: g.G,
			most: wantPower(g, g.G, most%g.Q),
		} {
			if got := Key(g, x); got != want {
				t.Errorf("P %d: Key(%d) is %d, want %d", g.P, x, got, want)
			}
		}
	}
}

// TestKeyIsOfG: another G makes other keys, another H the same ones.
func TestKeyIsOfG(t *testing.T) {
	g := small()
	g.G, g.H = g.H, g.G
	if got := Key(g, 2); got != 81 {
		t.Errorf("Key(2) with a G of 9 is %d, want 81", got)
	}
}

func TestJoin(t *testing.T) {
	for _, g := range groups() {
		for _, none := range [][]uint64{nil, {}} {
			if got := Join(g, none); got != 1 {
				t.Errorf("P %d: Join of no keys is %d, want 1", g.P, got)
			}
		}
		l := elements(g)
		for i, x := range l {
			if got := Join(g, []uint64{x}); got != x {
				t.Errorf("P %d: Join of %d alone is %d", g.P, x, got)
			}
			for _, keys := range [][]uint64{l[:i], l[i:], {x, x}, {x, l[0], l[1]}, l} {
				if got, want := Join(g, keys), wantProduct(g, keys...); got != want {
					t.Errorf("P %d: Join of %d is %d, want %d", g.P, keys, got, want)
				}
			}
		}
	}
}

// TestJoinedKeyIsThatOfTheSum: of all secrets, also where their sum is above the
// greatest number.
func TestJoinedKeyIsThatOfTheSum(t *testing.T) {
	for _, g := range groups() {
		secrets := exponents(g)
		for i := range secrets {
			part := secrets[i:]
			if got, want := Join(g, keysOf(g, part)), Key(g, wantSum(g, part)); got != want {
				t.Errorf("P %d: the keys of %d are joined to %d, want %d", g.P, part, got, want)
			}
		}
	}
}

func keysOf(g api.Params, secrets []uint64) []uint64 {
	var keys []uint64
	for _, x := range secrets {
		keys = append(keys, Key(g, x))
	}
	return keys
}

func TestSeal(t *testing.T) {
	for _, g := range groups() {
		for _, y := range elements(g) {
			for _, m := range elements(g) {
				for _, r := range exponents(g) {
					if got, want := Seal(g, y, m, r), wantSealed(g, y, m, r); got != want {
						t.Errorf("P %d: Seal(%d, %d, %d) is %v, want %v", g.P, y, m, r, got, want)
					}
				}
				for r, want := range edgesOfADraw(g, y, 1, m) {
					if got := Seal(g, y, m, r); got != want {
						t.Errorf("P %d: Seal(%d, %d, %d) is %v, want %v", g.P, y, m, r, got, want)
					}
				}
			}
		}
	}
}

// edgesOfADraw: what becomes of (u, v) for y by draws of 0, of Q, and one above.
func edgesOfADraw(g api.Params, y, u, v uint64) map[uint64]api.Pair {
	same, once := api.Pair{U: u, V: v}, api.Pair{U: wantProduct(g, u, g.G), V: wantProduct(g, v, y)}
	return map[uint64]api.Pair{0: same, g.Q: same, 2 * g.Q: same, 1: once, g.Q + 1: once, 2*g.Q + 1: once}
}

func TestAgain(t *testing.T) {
	for _, g := range groups() {
		for _, y := range elements(g) {
			for i, u := range elements(g) {
				c := api.Pair{U: u, V: elements(g)[(i+2)%5]}
				for _, r := range exponents(g) {
					want := api.Pair{
						U: wantProduct(g, c.U, wantPower(g, g.G, r)),
						V: wantProduct(g, c.V, wantPower(g, y, r)),
					}
					if got := Again(g, y, c, r); got != want {
						t.Errorf("P %d: Again(%d, %v, %d) is %v, want %v", g.P, y, c, r, got, want)
					}
				}
				for r, want := range edgesOfADraw(g, y, c.U, c.V) {
					if got := Again(g, y, c, r); got != want {
						t.Errorf("P %d: Again(%d, %v, %d) is %v, want %v", g.P, y, c, r, got, want)
					}
				}
			}
		}
	}
}

// TestSealedAgainIsSealedByTheSum: no draw of it is told from the others.
func TestSealedAgainIsSealedByTheSum(t *testing.T) {
	for _, g := range groups() {
		y, m := wantPower(g, g.G, 321), wantPower(g, g.G, 1234)
		draws := exponents(g)
		c := Seal(g, y, m, draws[0])
		for i, r := range draws[1:] {
			c = Again(g, y, c, r)
			if want := wantSealed(g, y, m, wantSum(g, draws[:i+2])); c != want {
				t.Errorf("P %d: sealed by %d it is %v, want %v", g.P, draws[:i+2], c, want)
			}
		}
	}
}

func TestShare(t *testing.T) {
	for _, g := range groups() {
		for _, u := range elements(g) {
			c := api.Pair{U: u, V: 9}
			for _, x := range exponents(g) {
				if got, want := Share(g, x, c), wantPower(g, u, x); got != want {
					t.Errorf("P %d: Share(%d, %v) is %d, want %d", g.P, x, c, got, want)
				}
			}
			for x, want := range map[uint64]uint64{0: 1, 1: u, g.Q: 1, g.Q + 1: u} {
				if got := Share(g, x, c); got != want {
					t.Errorf("P %d: Share(%d, %v) is %d, want %d", g.P, x, c, got, want)
				}
			}
		}
	}
}

func TestOpen(t *testing.T) {
	for _, g := range groups() {
		l := elements(g)
		for i, v := range l {
			c := api.Pair{U: l[(i+1)%len(l)], V: v}
			for _, none := range [][]uint64{nil, {}} {
				if got := Open(g, c, none); got != v {
					t.Errorf("P %d: Open of %v by no shares is %d", g.P, c, got)
				}
			}
			for _, shares := range [][]uint64{{1}, {v}, {l[0]}, {l[1], l[2]}, {v, v, l[3]}, l[:i], l[i:], l} {
				if got, want := Open(g, c, shares), wantOver(g, v, wantProduct(g, shares...)); got != want {
					t.Errorf("P %d: Open of %v by %d is %d, want %d", g.P, c, shares, got, want)
				}
			}
		}
	}
}

// TestEnterAndLeave know no group, and so take any numbers.
func TestEnterAndLeave(t *testing.T) {
	l := []uint64{0, 1, 4, 9, 2026, 2027, 1 << 62, most}
	for _, a := range l {
		for _, b := range l {
			if got, want := Enter(api.Pair{U: a, V: b}), (api.Three{U: a, W: 1, V: b}); got != want {
				t.Errorf("Enter of (%d, %d) is %v", a, b, got)
			}
			for _, c := range l {
				if got, want := Leave(api.Three{U: a, W: b, V: c}), (api.Pair{U: b, V: c}); got != want {
					t.Errorf("Leave of (%d, %d, %d) is %v", a, b, c, got)
				}
			}
		}
	}
}

func TestCross(t *testing.T) {
	for _, g := range groups() {
		l := elements(g)
		for i, y := range l {
			three := api.Three{U: l[(i+1)%5], W: l[(i+2)%5], V: l[(i+4)%5]}
			for _, x := range exponents(g) {
				for _, r := range exponents(g) {
					want := api.Three{
						U: three.U,
						W: wantProduct(g, three.W, wantPower(g, g.G, r)),
						V: wantProduct(g, wantOver(g, three.V, wantPower(g, three.U, x)), wantPower(g, y, r)),
					}
					if got := Cross(g, x, y, three, r); got != want {
						t.Errorf("P %d: Cross(%d, %d, %v, %d) is %v, want %v", g.P, x, y, three, r, got, want)
					}
				}
			}
		}
	}
}

// TestCrossAtTheEdges: a secret of 0 or of Q takes nothing away, a draw of 0 or
// of Q puts nothing on.
func TestCrossAtTheEdges(t *testing.T) {
	for _, g := range groups() {
		three := api.Three{U: wantPower(g, g.G, 3), W: wantPower(g, g.G, 2), V: wantPower(g, g.G, 4)}
		y := wantPower(g, g.G, 6)
		less, more := three, three
		less.V = g.G // 4 less 3
		more.W, more.V = wantPower(g, g.G, 3), wantPower(g, g.G, 10)
		for _, none := range []uint64{0, g.Q, 2 * g.Q} {
			for _, c := range []struct {
				x, r uint64
				want api.Three
			}{
				{none, none, three}, {1 + none, none, less}, {none, 1 + none, more},
				{1 + none, 1 + none, api.Three{U: three.U, W: more.W, V: wantPower(g, g.G, 7)}},
			} {
				if got := Cross(g, c.x, y, three, c.r); got != c.want {
					t.Errorf("P %d: Cross(%d, %d, %v, %d) is %v, want %v", g.P, c.x, y, three, c.r, got, c.want)
				}
			}
		}
	}
}

// secretLists: those of no key, of one and of several, also two alike, and some
// that make nothing together.
func secretLists(g api.Params) [][]uint64 {
	return [][]uint64{
		nil, {0}, {1}, {3}, {g.Q - 1}, {g.Q}, {most}, {1, 1}, {0, 3}, {2, g.Q - 2}, {g.Q + 3, most},
		{3, 1001, 77}, {most, most, most, 1}, exponents(g),
	}
}

func drawLists(g api.Params) [][]uint64 {
	return [][]uint64{{0}, {1}, {g.Q}, {most}, {2, 3}, {0, 0, 0}, {1, g.Q - 1}, {501, 901, most, g.Q + 1}, exponents(g)}
}

// sealedBy seals by the first draw, and again by each of the others.
func sealedBy(g api.Params, y, m uint64, draws []uint64) api.Pair {
	c := Seal(g, y, m, draws[0])
	for _, r := range draws[1:] {
		c = Again(g, y, c, r)
	}
	return c
}

func sharesOf(g api.Params, secrets []uint64, c api.Pair) []uint64 {
	var shares []uint64
	for _, x := range secrets {
		shares = append(shares, Share(g, x, c))
	}
	return shares
}

func TestSealedIsOpenedByAllShares(t *testing.T) {
	for _, g := range groups() {
		for _, secrets := range secretLists(g) {
			y := Join(g, keysOf(g, secrets))
			for _, draws := range drawLists(g) {
				for _, m := range elements(g) {
					c := sealedBy(g, y, m, draws)
					shares := sharesOf(g, secrets, c)
					if got := Open(g, c, shares); got != m {
						t.Errorf("P %d: %d, sealed by %d, is opened by %d as %d", g.P, m, draws, secrets, got)
					}
					slices.Reverse(shares)
					if got := Open(g, c, shares); got != m {
						t.Errorf("P %d: %d, sealed by %d, is opened by %d backward as %d", g.P, m, draws, secrets, got)
					}
				}
			}
		}
	}
}

// TestEachSealOfTheLeastGroup goes through all secrets of two, and all draws of
// sealing, and of sealing again.
func TestEachSealOfTheLeastGroup(t *testing.T) {
	g := eleven()
	for n := range g.Q * g.Q * g.Q * g.Q * g.Q {
		digit := func() uint64 { d := n % g.Q; n /= g.Q; return d }
		secrets, draws, m := []uint64{digit(), digit()}, []uint64{digit(), digit()}, wantPower(g, 4, digit())
		c := sealedBy(g, Join(g, keysOf(g, secrets)), m, draws)
		if got := Open(g, c, sharesOf(g, secrets, c)); got != m {
			t.Errorf("%d, sealed by %d, is opened by %d as %d", m, draws, secrets, got)
		}
	}
}

// TestNotOpenedWhereAShareLacks: no secret here is 0 modulo Q, nor is the sum of
// the draws, so that no share is 1.
func TestNotOpenedWhereAShareLacks(t *testing.T) {
	for _, g := range groups() {
		for _, secrets := range [][]uint64{{1}, {g.Q - 1}, {g.Q + 1, 3}, {3, 1001, 77}, {7, 7, 7, 1 << 40}} {
			y := Join(g, keysOf(g, secrets))
			for _, draws := range [][]uint64{{1}, {g.Q - 1}, {501, 901, g.Q + 1}} {
				for _, m := range elements(g) {
					c := sealedBy(g, y, m, draws)
					for i := range secrets {
						rest := slices.Delete(slices.Clone(secrets), i, i+1)
						if got := Open(g, c, sharesOf(g, rest, c)); got == m {
							t.Errorf("P %d: %d, sealed by %d, is opened by %d without %d", g.P, m, draws, rest, secrets[i])
						}
					}
				}
			}
		}
	}
}

// crossedBy crosses c by each secret, with draws from a list.
func crossedBy(g api.Params, secrets []uint64, y uint64, c api.Pair, draws []uint64) api.Three {
	three := Enter(c)
	for i, x := range secrets {
		three = Cross(g, x, y, three, draws[i%len(draws)])
	}
	return three
}

// TestCrossedIsSealedForTheOtherKey: by the sum of the draws of crossing, however
// it was sealed ahead.
func TestCrossedIsSealedForTheOtherKey(t *testing.T) {
	for _, g := range groups() {
		for _, other := range exponents(g) {
			y := Key(g, other)
			for _, secrets := range secretLists(g) {
				first := Join(g, keysOf(g, secrets))
				for i, draws := range drawLists(g) {
					m := elements(g)[i%5]
					three := crossedBy(g, secrets, y, sealedBy(g, first, m, draws), draws)
					checkCrossed(t, g, three, other, m, secrets, draws)
				}
			}
		}
	}
}

func checkCrossed(t *testing.T, g api.Params, three api.Three, other, m uint64, secrets, draws []uint64) {
	t.Helper()
	c := Leave(three)
	if got := Open(g, c, []uint64{Share(g, other, c)}); got != m {
		t.Errorf("P %d: %d, crossed by %d and %d, is opened by %d as %d", g.P, m, secrets, draws, other, got)
	}
	var used []uint64
	for i := range secrets {
		used = append(used, draws[i%len(draws)])
	}
	if want := wantSealed(g, wantPower(g, g.G, other), m, wantSum(g, used)); c != want {
		t.Errorf("P %d: %d, crossed by %d and %d, is %v, want %v", g.P, m, secrets, draws, c, want)
	}
}

// TestCrossedForJoinedKeys: the second layer has several secrets too, and seals
// again what left the first one; the order of the first one's secrets is free.
func TestCrossedForJoinedKeys(t *testing.T) {
	for _, g := range groups() {
		first, second := []uint64{3, g.Q + 2, most}, []uint64{77, 1 << 63, g.Q - 1}
		x, y := Join(g, keysOf(g, first)), Join(g, keysOf(g, second))
		for _, m := range elements(g) {
			for range 2 {
				slices.Reverse(first)
				c := Leave(crossedBy(g, first, y, sealedBy(g, x, m, []uint64{5, most}), exponents(g)))
				c = Again(g, y, Again(g, y, c, 12), most)
				if got := Open(g, c, sharesOf(g, second, c)); got != m {
					t.Errorf("P %d: %d is opened as %d", g.P, m, got)
				}
			}
		}
	}
}

// TestEachCrossingOfTheLeastGroup goes through all secrets of two, all draws of
// theirs, and all secrets of y.
func TestEachCrossingOfTheLeastGroup(t *testing.T) {
	g := eleven()
	for n := range g.Q * g.Q * g.Q * g.Q * g.Q * g.Q {
		digit := func() uint64 { d := n % g.Q; n /= g.Q; return d }
		secrets, draws, other, m := []uint64{digit(), digit()}, []uint64{digit(), digit()}, digit(), wantPower(g, 4, digit())
		c := Seal(g, Join(g, keysOf(g, secrets)), m, 3)
		checkCrossed(t, g, crossedBy(g, secrets, Key(g, other), c, draws), other, m, secrets, draws)
	}
}

// TestNotCrossedWhereASecretLacks: what one secret of two has crossed is still
// sealed for the other one too.
func TestNotCrossedWhereASecretLacks(t *testing.T) {
	for _, g := range groups() {
		secrets, other := []uint64{3, 1001}, uint64(321)
		for _, m := range elements(g) {
			c := Seal(g, Join(g, keysOf(g, secrets)), m, 7)
			for i := range secrets {
				left := Leave(crossedBy(g, secrets[i:i+1], Key(g, other), c, []uint64{4}))
				if got := Open(g, left, []uint64{Share(g, other, left)}); got == m {
					t.Errorf("P %d: %d is opened, crossed by %d alone", g.P, m, secrets[i])
				}
			}
		}
	}
}

// brokenGroups aren't right, in ways that may break a call.
func brokenGroups() []api.Params {
	l := []api.Params{{}, {P: most, Q: most, G: most, H: most}, {P: 15, Q: 7, G: 3, H: 5}, {P: 12, Q: 6, G: 6, H: 4}}
	edges := []uint64{0, 1, 2, 3, 4, 11, 1<<62 - 1, api.MostMod, api.MostMod + 1, 1 << 63, most - 1, most}
	for _, p := range edges {
		for _, q := range edges {
			l = append(l,
				api.Params{P: p, Q: q, G: 4, H: 9, Rows: eleven().Rows},
				api.Params{P: p, Q: q, G: 0, H: 1},
				api.Params{P: p, Q: q, G: most, H: most - 1, Rows: []api.Row{{}, row(most, most, most)}},
			)
		}
	}
	return l
}

func callAll(g api.Params, a, b, c uint64) {
	Key(g, a)
	Join(g, nil)
	Join(g, []uint64{a, b, c, a})
	Seal(g, a, b, c)
	Again(g, a, api.Pair{U: b, V: c}, b)
	Share(g, a, api.Pair{U: b, V: c})
	Open(g, api.Pair{U: a, V: b}, nil)
	Open(g, api.Pair{U: a, V: b}, []uint64{c, a})
	Enter(api.Pair{U: a, V: b})
	Cross(g, a, b, api.Three{U: c, W: a, V: b}, c)
	Leave(api.Three{U: a, W: b, V: c})
}

func ends(g api.Params, a, b, c uint64) (ok bool) {
	defer func() { ok = recover() == nil }()
	callAll(g, a, b, c)
	return
}

// TestEveryCallEnds: of groups that aren't right, and of numbers that are no
// elements of a right one, something is answered.
func TestEveryCallEnds(t *testing.T) {
	for _, g := range slices.Concat(brokenGroups(), groups()) {
		numbers := []uint64{0, 1, 2, 5, g.P - 1, g.P, g.Q, 1 << 62, most}
		for _, a := range numbers {
			for _, b := range numbers {
				for _, c := range numbers {
					if !ends(g, a, b, c) {
						t.Fatalf("P %d, Q %d, G %d: a call of %d, %d and %d panics", g.P, g.Q, g.G, a, b, c)
					}
				}
			}
		}
	}
}

// TestLongLists: joined and opened in one go, however many there are.
func TestLongLists(t *testing.T) {
	g := largest()
	l := slices.Repeat([]uint64{g.G, 9}, 50000)
	want := wantProduct(g, wantPower(g, g.G, 50000), wantPower(g, 9, 50000))
	if got := Join(g, l); got != want {
		t.Errorf("Join of many keys is %d, want %d", got, want)
	}
	if got := Open(g, api.Pair{U: 1, V: want}, l); got != 1 {
		t.Errorf("Open by many shares is %d, want 1", got)
	}
}

func TestWhatIsHandedInStays(t *testing.T) {
	for _, groupOf := range []func() api.Params{eleven, small, largest, func() api.Params { return brokenGroups()[4] }} {
		g := groupOf()
		callAll(g, 4, 9, most)
		// The list ends ahead of its room, which is not written to either.
		room := []uint64{4, 9, g.P + 1, 36, 25}
		before := slices.Clone(room)
		Join(g, room[:3])
		Open(g, api.Pair{U: 4, V: 9}, room[:3])
		if !slices.Equal(room, before) {
			t.Errorf("P %d: the list has become %d", g.P, room)
		}
		if !reflect.DeepEqual(g, groupOf()) {
			t.Errorf("P %d: the group was changed", g.P)
		}
	}
}

// TestOneAnswer: calls ahead change nothing.
func TestOneAnswer(t *testing.T) {
	g := small()
	first := Cross(g, 5, 64, Enter(Seal(g, 9, 36, 500)), 7)
	for _, other := range slices.Concat(groups(), brokenGroups()) {
		callAll(other, 3, 4, most)
		if got := Cross(g, 5, 64, Enter(Seal(g, 9, 36, 500)), 7); got != first {
			t.Fatalf("%v has become %v", first, got)
		}
	}
}
