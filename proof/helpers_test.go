package proof

import (
	"crypto/sha256"
	"encoding/binary"
	"math"
	"math/big"
	"slices"
	"strings"
	"testing"

	"spandrel/api"
	"spandrel/group"
)

const greatest = math.MaxUint64

func row(n, a uint64, factors ...uint64) api.Row {
	return api.Row{N: n, A: a, Factors: factors}
}

// eleven has the least P of all groups.
func eleven() api.Params {
	return api.Params{P: 11, Q: 5, G: 4, H: 9, Rows: []api.Row{row(5, 2, 2), row(11, 2, 2, 5)}}
}

// small is the group of the chapters' examples.
func small() api.Params {
	return api.Params{P: 2027, Q: 1013, G: 4, H: 9, Rows: []api.Row{
		row(5, 2, 2), row(11, 2, 2, 5), row(23, 5, 2, 11), row(1013, 3, 2, 11, 23), row(2027, 2, 2, 1013),
	}}
}

// largest has the greatest P that a group may have: no other one is so near to
// MostMod. Its G is above half of P, so that no product fits into 64 bits.
func largest() api.Params {
	return api.Params{P: 1<<62 - 10565, Q: 1<<61 - 5283, G: 1<<62 - 10567, H: 9, Rows: []api.Row{
		row(3, 2, 2), row(5, 2, 2), row(7, 3, 2, 3), row(11, 2, 2, 5), row(2311, 3, 2, 3, 5, 7, 11),
		row(73, 5, 2, 3), row(17, 3, 2), row(23, 5, 2, 11), row(41, 6, 2, 5), row(821, 2, 2, 5, 41),
		row(172411, 3, 2, 3, 5, 7, 821), row(7930907, 2, 2, 23, 172411),
		row(11864636873, 5, 2, 11, 17, 7930907), row(1732236983459, 2, 2, 73, 11864636873),
		row(249442125618097, 5, 2, 3, 1732236983459),
		row(1<<61-5283, 2, 2, 2311, 249442125618097),
		row(1<<62-10565, 2, 2, 1<<61-5283),
	}}
}

func groups() []api.Params { return []api.Params{eleven(), small(), largest()} }

// TestGroupsOfTheTestsAreRight: the chapter speaks of groups that are right alone.
func TestGroupsOfTheTestsAreRight(t *testing.T) {
	for _, g := range groups() {
		if !group.Right(g) {
			t.Errorf("the group of %d isn't right", g.P)
		}
	}
}

// isVast: in a smaller group one challenge is like another one by accident.
func isVast(g api.Params) bool { return g.Q > 1<<60 }

func number(x uint64) *big.Int { return new(big.Int).SetUint64(x) }

func wantPower(g api.Params, x, e uint64) uint64 {
	return new(big.Int).Exp(number(x), number(e), number(g.P)).Uint64()
}

func wantProduct(g api.Params, l ...uint64) uint64 {
	product := big.NewInt(1)
	for _, x := range l {
		product.Mod(product.Mul(product, number(x)), number(g.P))
	}
	return product.Uint64()
}

// wantOver works by the little theorem of Fermat, as P is a prime.
func wantOver(g api.Params, x, y uint64) uint64 {
	return wantProduct(g, x, wantPower(g, y, g.P-2))
}

func wantElement(g api.Params, x uint64) bool {
	return x >= 1 && x < g.P && wantPower(g, x, g.Q) == 1
}

// wantImage raises to exponents that are not taken modulo Q: of elements the
// powers are the same.
func wantImage(g api.Params, c api.Claim, w []uint64) []uint64 {
	var image []uint64
	for _, bases := range c.Bases {
		product := uint64(1)
		for i, base := range bases {
			product = wantProduct(g, product, wantPower(g, base, w[i]))
		}
		image = append(image, product)
	}
	return image
}

// wantBytes are the numbers of a list in eight bytes each, one behind the other.
func wantBytes(l ...uint64) []byte {
	var b []byte
	for _, x := range l {
		b = binary.BigEndian.AppendUint64(b, x)
	}
	return b
}

// wantChallenge is reckoned out of the words of chapters 3 and 7 alone.
func wantChallenge(g api.Params, label string, c api.Claim, t []uint64) uint64 {
	parts := [][]byte{[]byte(label), wantBytes(g.P, g.Q, g.G, g.H), wantBytes(c.Targets...)}
	for _, bases := range c.Bases {
		parts = append(parts, wantBytes(bases...))
	}
	parts = append(parts, wantBytes(t...))
	var said []byte
	for _, part := range parts {
		said = append(append(said, wantBytes(uint64(len(part)))...), part...)
	}
	sum := sha256.Sum256(said)
	e := new(big.Int).SetBytes(sum[:16])
	return e.Mod(e, number(g.Q)).Uint64()
}

// wantProof is what one says who has w and d, of a claim of as many.
func wantProof(g api.Params, label string, c api.Claim, w, d []uint64) api.Proof {
	p := api.Proof{Commit: wantImage(g, c, d)}
	e := number(wantChallenge(g, label, c, p.Commit))
	for i := range w {
		z := new(big.Int).Mul(e, number(w[i]))
		z.Add(z, number(d[i]))
		p.Answers = append(p.Answers, z.Mod(z, number(g.Q)).Uint64())
	}
	return p
}

// wantClaim is the n of which c is a claim, and 0, if it is none.
func wantClaim(g api.Params, c api.Claim) int {
	if len(c.Targets) < 1 || len(c.Targets) > 64 || len(c.Bases) != len(c.Targets) {
		return 0
	}
	n := len(c.Bases[0])
	for _, l := range append([][]uint64{c.Targets}, c.Bases...) {
		if slices.ContainsFunc(l, func(x uint64) bool { return !wantElement(g, x) }) {
			return 0
		}
	}
	if n > 64 || slices.ContainsFunc(c.Bases, func(l []uint64) bool { return len(l) != n }) {
		return 0
	}
	return n
}

func wantAccept(g api.Params, label string, c api.Claim, p api.Proof) bool {
	n := wantClaim(g, c)
	if n == 0 || len(p.Commit) != len(c.Targets) || len(p.Answers) != n {
		return false
	}
	e := wantChallenge(g, label, c, p.Commit)
	image := wantImage(g, c, p.Answers)
	for j, x := range p.Commit {
		if !wantElement(g, x) || image[j] != wantProduct(g, x, wantPower(g, c.Targets[j], e)) {
			return false
		}
	}
	return true
}

// drawn are n numbers of all sizes, others for another seed.
func drawn(seed uint64, n int) []uint64 {
	l := make([]uint64, n)
	for i := range l {
		x := seed*0x9e3779b97f4a7c15 + uint64(i+1)*0xbf58476d1ce4e5b9
		x = (x ^ x>>31) * 0x94d049bb133111eb
		l[i] = (x ^ x>>29) >> (x % 3 * 17)
	}
	return l
}

// elements are n of them, none of them 1.
func elements(g api.Params, seed uint64, n int) []uint64 {
	l := drawn(seed, n)
	for i, x := range l {
		l[i] = wantPower(g, g.G, 1+x%(g.Q-1))
	}
	return l
}

// someClaim is one with targets that are no image of anything told.
func someClaim(g api.Params, targets, n int) api.Claim {
	c := api.Claim{Targets: elements(g, 77, targets)}
	for j := range targets {
		c.Bases = append(c.Bases, elements(g, uint64(j), n))
	}
	return c
}

// heldClaim holds for w.
func heldClaim(g api.Params, targets int, w []uint64) api.Claim {
	c := someClaim(g, targets, len(w))
	c.Targets = wantImage(g, c, w)
	return c
}

// counts: how many targets, and how many bases.
func counts() [][2]int {
	return [][2]int{{1, 1}, {1, 2}, {2, 1}, {2, 2}, {3, 5}, {5, 3}, {64, 1}, {1, 64}}
}

// exponents are numbers about the edges at which one is taken modulo Q, and some
// between.
func exponents(g api.Params) []uint64 {
	return []uint64{
		0, 1, 2, 3, 77, g.Q - 2, g.Q - 1, g.Q, g.Q + 1, 2*g.Q - 1, 2 * g.Q, 2*g.Q + 1, g.P, 3*g.Q + 4,
		1<<32 + 5, 123456789012345678, 1 << 62, 1 << 63, 0x9e3779b97f4a7c15, greatest - 1, greatest,
	}
}

// strangers are numbers that are no elements: some would be, taken modulo P.
func strangers(g api.Params) []uint64 {
	return []uint64{0, 2, g.P - 1, g.P - g.G, g.P, g.P + 1, g.P + g.G, 2*g.P + 1, 3*g.P + g.G, 1 << 63, greatest}
}

// TestStrangersAreNoElements: else the tests by them say nothing.
func TestStrangersAreNoElements(t *testing.T) {
	for _, g := range groups() {
		for _, x := range strangers(g) {
			if wantElement(g, x) {
				t.Errorf("P %d: %d is an element", g.P, x)
			}
		}
	}
}

// labels are empty, short, long about the pieces of a sum, and of all bytes.
func labels() []string {
	var all strings.Builder
	for i := range 256 {
		all.WriteByte(byte(i))
	}
	return []string{
		"", "a", "b", "ab", "\x00", "\x00\x00", "\xff", "round 1/letter", "é, 字, \xc3", all.String(),
		strings.Repeat("x", 55), strings.Repeat("x", 56), strings.Repeat("x", 63), strings.Repeat("x", 64),
		strings.Repeat("x", 65), strings.Repeat(all.String(), 400),
	}
}

// noClaims are none: for their lengths, and for a number at each place.
func noClaims(g api.Params) []api.Claim {
	a, b := g.G, g.H
	l := []api.Claim{
		{}, {Targets: []uint64{}, Bases: [][]uint64{}}, {Targets: []uint64{a}}, {Bases: [][]uint64{{a}}},
		{Targets: []uint64{a}, Bases: [][]uint64{nil}}, {Targets: []uint64{a}, Bases: [][]uint64{{}}},
		{Targets: []uint64{a, b}, Bases: [][]uint64{{}, {}}}, {Targets: []uint64{}, Bases: [][]uint64{{}}},
		{Targets: []uint64{a}, Bases: [][]uint64{{a}, {b}}}, {Targets: []uint64{a, b}, Bases: [][]uint64{{a}}},
		{Targets: []uint64{a, b}, Bases: [][]uint64{{a}, {}}}, {Targets: []uint64{a, b}, Bases: [][]uint64{{}, {a}}},
		{Targets: []uint64{a, b}, Bases: [][]uint64{{a}, {a, b}}}, {Targets: []uint64{a, b}, Bases: [][]uint64{{a, b}, {a}}},
		someClaim(g, 65, 1), someClaim(g, 1, 65), someClaim(g, 65, 65), someClaim(g, 64, 65), someClaim(g, 2, 1000),
	}
	for _, x := range strangers(g) {
		for place := range 9 {
			c := someClaim(g, 3, 2)
			if place < 3 {
				c.Targets[place] = x
			} else {
				c.Bases[(place-3)/2][(place-3)%2] = x
			}
			l = append(l, c)
		}
	}
	return l
}
