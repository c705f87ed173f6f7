package shuffle

import (
	"crypto/sha256"
	"encoding/binary"
	"fmt"
	"math"
	"math/big"
	"slices"
	"strings"
	"testing"

	"spandrel/api"
	"spandrel/group"
)

const greatest = math.MaxUint64

func row(n, a uint64, factors ...uint64) api.Row {
	return api.Row{N: n, A: a, Factors: factors}
}

// eleven has the least P of all groups: a batch may have more boxes than its Q.
func eleven() api.Params {
	return api.Params{P: 11, Q: 5, G: 4, H: 9, Rows: []api.Row{row(5, 2, 2), row(11, 2, 2, 5)}}
}

// small is the group of the chapters' examples.
func small() api.Params {
	return api.Params{P: 2027, Q: 1013, G: 4, H: 9, Rows: []api.Row{
		row(5, 2, 2), row(11, 2, 2, 5), row(23, 5, 2, 11), row(1013, 3, 2, 11, 23), row(2027, 2, 2, 1013),
	}}
}

// largest has the greatest P that a group may have: no other one is so near to
// MostMod. Its G is above half of P, so that no product fits into 64 bits.
func largest() api.Params {
	return api.Params{P: 1<<62 - 10565, Q: 1<<61 - 5283, G: 1<<62 - 10567, H: 9, Rows: []api.Row{
		row(3, 2, 2), row(5, 2, 2), row(7, 3, 2, 3), row(11, 2, 2, 5), row(2311, 3, 2, 3, 5, 7, 11),
		row(73, 5, 2, 3), row(17, 3, 2), row(23, 5, 2, 11), row(41, 6, 2, 5), row(821, 2, 2, 5, 41),
		row(172411, 3, 2, 3, 5, 7, 821), row(7930907, 2, 2, 23, 172411),
		row(11864636873, 5, 2, 11, 17, 7930907), row(1732236983459, 2, 2, 73, 11864636873),
		row(249442125618097, 5, 2, 3, 1732236983459),
		row(1<<61-5283, 2, 2, 2311, 249442125618097),
		row(1<<62-10565, 2, 2, 1<<61-5283),
	}}
}

func groups() []api.Params { return []api.Params{eleven(), small(), largest()} }

// TestGroupsOfTheTestsAreRight: the chapter speaks of groups that are right alone.
func TestGroupsOfTheTestsAreRight(t *testing.T) {
	for _, g := range groups() {
		if !group.Right(g) {
			t.Errorf("the group of %d isn't right", g.P)
		}
	}
}

// isVast: in a smaller group one challenge is like another one by accident.
func isVast(g api.Params) bool { return g.Q > 1<<60 }

func number(x uint64) *big.Int { return new(big.Int).SetUint64(x) }

func wantPower(g api.Params, x, e uint64) uint64 {
	return new(big.Int).Exp(number(x), number(e), number(g.P)).Uint64()
}

func wantProduct(g api.Params, l ...uint64) uint64 {
	product := big.NewInt(1)
	for _, x := range l {
		product.Mod(product.Mul(product, number(x)), number(g.P))
	}
	return product.Uint64()
}

// wantOver works by the little theorem of Fermat, as P is a prime.
func wantOver(g api.Params, x, y uint64) uint64 {
	return wantProduct(g, x, wantPower(g, y, g.P-2))
}

func wantElement(g api.Params, x uint64) bool {
	return x >= 1 && x < g.P && wantPower(g, x, g.Q) == 1
}

// modQ takes a sum or product of any size, also one below 0, modulo Q.
func modQ(g api.Params, x *big.Int) uint64 {
	return new(big.Int).Mod(x, number(g.Q)).Uint64()
}

// wantXTo is X to the j modulo Q.
func wantXTo(g api.Params, x uint64, j int) uint64 {
	return modQ(g, new(big.Int).Exp(number(x), big.NewInt(int64(j)), nil))
}

// wantFactor is Y j + X to the j - Z, in numbers of any size, modulo Q.
func wantFactor(g api.Params, t api.Talk, j int) uint64 {
	sum := new(big.Int).Mul(number(t.Y), big.NewInt(int64(j)))
	sum.Add(sum, new(big.Int).Exp(number(t.X), big.NewInt(int64(j)), nil))
	return modQ(g, sum.Sub(sum, number(t.Z)))
}

func wantD(g api.Params, t api.Talk, i int) uint64 {
	return wantOver(g, wantProduct(g, wantPower(g, t.A[i], t.Y), t.B[i]), wantPower(g, g.G, t.Z))
}

// wantMixed tells no errors: order and rho are as they should be.
func wantMixed(g api.Params, y uint64, in []api.Box, order []int, rho [][api.Width]uint64) []api.Box {
	var out []api.Box
	for i, place := range order {
		var box api.Box
		for w := range box {
			box[w].U = wantProduct(g, in[place][w].U, wantPower(g, g.G, rho[i][w]))
			box[w].V = wantProduct(g, in[place][w].V, wantPower(g, y, rho[i][w]))
		}
		out = append(out, box)
	}
	return out
}

func wantCommitment(g api.Params, m, r uint64) uint64 {
	return wantProduct(g, wantPower(g, g.G, m), wantPower(g, g.H, r))
}

func wantFirst(g api.Params, order []int, r []uint64) []uint64 {
	var l []uint64
	for i, place := range order {
		l = append(l, wantCommitment(g, uint64(place+1), r[i]))
	}
	return l
}

func wantSecond(g api.Params, order []int, x uint64, s []uint64) []uint64 {
	var l []uint64
	for i, place := range order {
		l = append(l, wantCommitment(g, wantXTo(g, x, place+1), s[i]))
	}
	return l
}

func wantThird(g api.Params, order []int, t api.Talk, draws []uint64) []uint64 {
	l := []uint64{wantD(g, t, 0)}
	for i := 1; i < len(order); i++ {
		l = append(l, wantProduct(g, wantPower(g, l[i-1], wantFactor(g, t, order[i]+1)), wantPower(g, g.H, draws[i])))
	}
	return l
}

// namesOf are the exponents of a claim about n boxes, in the chapter's order.
func namesOf(n int) []string {
	var l []string
	for _, letter := range []string{"a", "r", "b", "s", "d", "u"} {
		for i := range n {
			l = append(l, fmt.Sprint(letter, i))
		}
	}
	for i := range n - 1 {
		l = append(l, fmt.Sprint("t", i))
	}
	return append(l, "t'", "rho0", "rho1", "rho2")
}

// wantExponents are told by name, and put in order at the end.
func wantExponents(g api.Params, order []int, t api.Talk, d api.Draws) []uint64 {
	n := len(order)
	w := map[string]uint64{}
	var v *big.Int
	for i, place := range order {
		u := new(big.Int).Add(new(big.Int).Mul(number(t.Y), number(d.R[i])), number(d.S[i]))
		w[fmt.Sprint("a", i)] = uint64(place+1) % g.Q
		w[fmt.Sprint("r", i)] = d.R[i] % g.Q
		w[fmt.Sprint("b", i)] = wantXTo(g, t.X, place+1)
		w[fmt.Sprint("s", i)] = d.S[i] % g.Q
		w[fmt.Sprint("d", i)] = wantFactor(g, t, place+1)
		w[fmt.Sprint("u", i)] = modQ(g, u)
		if i == 0 {
			v = u
			continue
		}
		w[fmt.Sprint("t", i-1)] = d.T[i] % g.Q
		v = v.Add(v.Mul(v, number(wantFactor(g, t, place+1))), number(d.T[i]))
	}
	w["t'"] = modQ(g, v)
	for pair := range api.Width {
		sum := new(big.Int)
		for i, place := range order {
			sum.Sub(sum, new(big.Int).Mul(number(wantXTo(g, t.X, place+1)), number(d.Rho[i][pair])))
		}
		w[fmt.Sprint("rho", pair)] = modQ(g, sum)
	}
	var l []uint64
	for _, name := range namesOf(n) {
		l = append(l, w[name])
	}
	return l
}

// claimOf lays a claim about n boxes out of bases that are told by name.
type claimOf struct {
	names []string
	claim api.Claim
}

func (c *claimOf) add(target uint64, bases map[string]uint64) {
	var row []uint64
	for _, name := range c.names {
		base, ok := bases[name]
		if !ok {
			base = 1
		}
		row = append(row, base)
	}
	c.claim.Targets = append(c.claim.Targets, target)
	c.claim.Bases = append(c.claim.Bases, row)
}

// wantClaim tells no errors: all is as it should be.
func wantClaim(g api.Params, y uint64, in, out []api.Box, t api.Talk) api.Claim {
	n := len(in)
	c := claimOf{names: namesOf(n)}
	name := func(letter string, i int) string { return fmt.Sprint(letter, i) }
	for i := range n {
		c.add(t.A[i], map[string]uint64{name("a", i): g.G, name("r", i): g.H})
	}
	for i := range n {
		c.add(t.B[i], map[string]uint64{name("b", i): g.G, name("s", i): g.H})
	}
	for i := range n {
		c.add(wantD(g, t, i), map[string]uint64{name("d", i): g.G, name("u", i): g.H})
	}
	for i := 1; i < n; i++ {
		c.add(t.P[i], map[string]uint64{name("d", i): t.P[i-1], name("t", i-1): g.H})
	}
	k := big.NewInt(1)
	for j := 1; j <= n; j++ {
		k.Mul(k, number(wantFactor(g, t, j)))
	}
	c.add(wantOver(g, t.P[n-1], wantPower(g, g.G, modQ(g, k))), map[string]uint64{"t'": g.H})
	for w := range api.Width {
		u, v := uint64(1), uint64(1)
		ofU, ofV := map[string]uint64{name("rho", w): g.G}, map[string]uint64{name("rho", w): y}
		for j := 1; j <= n; j++ {
			u = wantProduct(g, u, wantPower(g, in[j-1][w].U, wantXTo(g, t.X, j)))
			v = wantProduct(g, v, wantPower(g, in[j-1][w].V, wantXTo(g, t.X, j)))
			ofU[name("b", j-1)], ofV[name("b", j-1)] = out[j-1][w].U, out[j-1][w].V
		}
		c.add(u, ofU)
		c.add(v, ofV)
	}
	return c.claim
}

// wantBytes are the numbers of a list in eight bytes each, one behind the other.
func wantBytes(l ...uint64) []byte {
	var b []byte
	for _, x := range l {
		b = binary.BigEndian.AppendUint64(b, x)
	}
	return b
}

func boxBytes(boxes []api.Box) []byte {
	var b []byte
	for _, box := range boxes {
		b = append(b, wantBytes(box[0].U, box[0].V, box[1].U, box[1].V, box[2].U, box[2].V)...)
	}
	return b
}

// wantNumber is reckoned out of the words of chapter 3.
func wantNumber(label string, q uint64, parts ...[]byte) uint64 {
	said := append(wantBytes(uint64(len(label))), label...)
	for _, part := range parts {
		said = append(append(said, wantBytes(uint64(len(part)))...), part...)
	}
	sum := sha256.Sum256(said)
	e := new(big.Int).SetBytes(sum[:16])
	return e.Mod(e, number(q)).Uint64()
}

// wantX, wantY, wantZ are the challenges, reckoned out of the chapter's words.
func wantX(g api.Params, label string, y uint64, in, out []api.Box, a []uint64) uint64 {
	return wantNumber(label, g.Q, []byte("x"), wantBytes(g.P, g.Q, g.G, g.H, y), boxBytes(in), boxBytes(out), wantBytes(a...))
}

func wantY(g api.Params, label string, y uint64, in, out []api.Box, a, b []uint64) uint64 {
	return wantNumber(label, g.Q, []byte("y"), wantBytes(g.P, g.Q, g.G, g.H, y), boxBytes(in), boxBytes(out), wantBytes(a...), wantBytes(b...))
}

func wantZ(g api.Params, label string, y uint64, in, out []api.Box, a, b []uint64) uint64 {
	return wantNumber(label, g.Q, []byte("z"), wantBytes(g.P, g.Q, g.G, g.H, y), boxBytes(in), boxBytes(out), wantBytes(a...), wantBytes(b...))
}

// wantImage raises to exponents that are not taken modulo Q: of elements the
// powers are the same.
func wantImage(g api.Params, c api.Claim, w []uint64) []uint64 {
	var image []uint64
	for _, bases := range c.Bases {
		product := uint64(1)
		for i, base := range bases {
			if base != 1 {
				product = wantProduct(g, product, wantPower(g, base, w[i]))
			}
		}
		image = append(image, product)
	}
	return image
}

// wantAsked is the challenge of layer 7, reckoned out of that chapter's words.
func wantAsked(g api.Params, label string, c api.Claim, t []uint64) uint64 {
	parts := [][]byte{wantBytes(g.P, g.Q, g.G, g.H), wantBytes(c.Targets...)}
	for _, bases := range c.Bases {
		parts = append(parts, wantBytes(bases...))
	}
	return wantNumber(label, g.Q, append(parts, wantBytes(t...))...)
}

// wantTalk is what one lays down who mixed, with the challenges of the label.
func wantTalk(g api.Params, label string, y uint64, in, out []api.Box, order []int, d api.Draws) api.Talk {
	t := api.Talk{A: wantFirst(g, order, d.R)}
	t.X = wantX(g, label, y, in, out, t.A)
	t.B = wantSecond(g, order, t.X, d.S)
	t.Y, t.Z = wantY(g, label, y, in, out, t.A, t.B), wantZ(g, label, y, in, out, t.A, t.B)
	t.P = wantThird(g, order, t, d.T)
	return t
}

// wantProved tells no errors: all is as it should be.
func wantProved(g api.Params, label string, y uint64, in []api.Box, order []int, d api.Draws) ([]api.Box, api.Shown) {
	out := wantMixed(g, y, in, order, d.Rho)
	t := wantTalk(g, label, y, in, out, order, d)
	c, w := wantClaim(g, y, in, out, t), wantExponents(g, order, t, d)
	s := api.Shown{A: t.A, B: t.B, P: t.P, Proof: api.Proof{Commit: wantImage(g, c, d.D)}}
	e := number(wantAsked(g, label, c, s.Proof.Commit))
	for i := range w {
		z := new(big.Int).Mul(e, number(w[i]))
		s.Proof.Answers = append(s.Proof.Answers, modQ(g, z.Add(z, number(d.D[i]))))
	}
	return out, s
}

// drawn are n numbers of all sizes, others for another seed.
func drawn(seed uint64, n int) []uint64 {
	l := make([]uint64, n)
	for i := range l {
		x := seed*0x9e3779b97f4a7c15 + uint64(i+1)*0xbf58476d1ce4e5b9
		x = (x ^ x>>31) * 0x94d049bb133111eb
		l[i] = (x ^ x>>29) >> (x % 3 * 17)
	}
	return l
}

// elements are n of them, none of them 1.
func elements(g api.Params, seed uint64, n int) []uint64 {
	l := drawn(seed, n)
	for i, x := range l {
		l[i] = wantPower(g, g.G, 1+x%(g.Q-1))
	}
	return l
}

// someKey is one whose secret plays no part.
func someKey(g api.Params) uint64 { return elements(g, 500, 1)[0] }

// someBoxes are a batch of n.
func someBoxes(g api.Params, n int) []api.Box {
	var in []api.Box
	for i := range n {
		l := elements(g, uint64(100+i), 6)
		in = append(in, api.Box{{U: l[0], V: l[1]}, {U: l[2], V: l[3]}, {U: l[4], V: l[5]}})
	}
	return in
}

// someOrder is one of n in which, for 3 and more, few boxes stay.
func someOrder(n int) []int {
	step := []int{1, 1, 1, 2, 3, 2, 5, 3, 5, 4}[n]
	var order []int
	for i := range n {
		order = append(order, (i*step+n/2)%n)
	}
	return order
}

func someRho(n int) [][api.Width]uint64 {
	var rho [][api.Width]uint64
	for i := range n {
		rho = append(rho, [api.Width]uint64(drawn(uint64(200+i), api.Width)))
	}
	return rho
}

// someDraws are as many as a batch of n asks.
func someDraws(n int) api.Draws {
	return api.Draws{Rho: someRho(n), R: drawn(301, n), S: drawn(302, n), T: drawn(303, n), D: drawn(304, 7*n+api.Width)}
}

// drawsOf are all the number x.
func drawsOf(n int, x uint64) api.Draws {
	return api.Draws{
		Rho: slices.Repeat([][api.Width]uint64{{x, x, x}}, n),
		R:   slices.Repeat([]uint64{x}, n), S: slices.Repeat([]uint64{x}, n), T: slices.Repeat([]uint64{x}, n),
		D: slices.Repeat([]uint64{x}, 7*n+api.Width),
	}
}

// ordersOf are some of n: as they stand, backwards, and mixed up.
func ordersOf(n int) [][]int {
	forth := make([]int, n)
	for i := range forth {
		forth[i] = i
	}
	back := slices.Clone(forth)
	slices.Reverse(back)
	l := [][]int{forth, someOrder(n), back}
	return slices.CompactFunc(l, slices.Equal)
}

// allOrders are all of n.
func allOrders(n int) [][]int {
	if n == 0 {
		return [][]int{{}}
	}
	var l [][]int
	for _, order := range allOrders(n - 1) {
		for i := range n {
			l = append(l, slices.Insert(slices.Clone(order), i, n-1))
		}
	}
	return l
}

// noOrders are none of n: too short, too long, with a number twice, with one that
// is negative or too great.
func noOrders(n int) [][]int {
	order := someOrder(n)
	l := [][]int{nil, {}, order[:n-1], order[1:], append(slices.Clone(order), n), append(slices.Clone(order), 0), append([]int{n}, order...)}
	for place := range n {
		for _, x := range []int{-1, n, n + 1, -n, math.MinInt, math.MaxInt, -1 << 32, 1 << 32, 256} {
			other := slices.Clone(order)
			other[place] = x
			l = append(l, other)
		}
		for x := range n {
			if x != order[place] {
				other := slices.Clone(order)
				other[place] = x
				l = append(l, other)
			}
		}
	}
	return l
}

// numbersAbout are at the edges at which a number is taken modulo Q, and some
// between.
func numbersAbout(g api.Params) []uint64 {
	return []uint64{
		0, 1, 2, 77, g.Q - 1, g.Q, g.Q + 1, 2*g.Q - 1, 2 * g.Q, g.P, 3*g.Q + 4,
		1<<32 + 5, 123456789012345678, 1 << 62, 1 << 63, greatest - 1, greatest,
	}
}

// strangers are numbers that are no elements: some would be, taken modulo P.
func strangers(g api.Params) []uint64 {
	return []uint64{0, 2, g.P - 1, g.P - g.G, g.P, g.P + 1, g.P + g.G, 2*g.P + 1, 3*g.P + g.G, 1 << 63, greatest}
}

// TestStrangersAreNoElements: else the tests by them say nothing.
func TestStrangersAreNoElements(t *testing.T) {
	for _, g := range groups() {
		for _, x := range strangers(g) {
			if wantElement(g, x) {
				t.Errorf("P %d: %d is an element", g.P, x)
			}
		}
	}
}

// labels are empty, short, long about the pieces of a sum, and of all bytes.
func labels() []string {
	var all strings.Builder
	for i := range 256 {
		all.WriteByte(byte(i))
	}
	return []string{
		"", "a", "b", "x", "y", "z", "\x00", "\x00\x00", "\xff", "round 1/mix", "é, 字, \xc3", all.String(),
		strings.Repeat("x", 55), strings.Repeat("x", 56), strings.Repeat("x", 64), strings.Repeat(all.String(), 40),
	}
}

func sameProof(a, b api.Proof) bool {
	return slices.Equal(a.Commit, b.Commit) && slices.Equal(a.Answers, b.Answers)
}

func sameShown(a, b api.Shown) bool {
	return slices.Equal(a.A, b.A) && slices.Equal(a.B, b.B) && slices.Equal(a.P, b.P) && sameProof(a.Proof, b.Proof)
}

func sameClaim(a, b api.Claim) bool {
	return slices.Equal(a.Targets, b.Targets) && slices.EqualFunc(a.Bases, b.Bases, slices.Equal[[]uint64])
}

// numbersIn are places at which the numbers of boxes can be written.
func numbersIn(boxes []api.Box) []*uint64 {
	var l []*uint64
	for i := range boxes {
		for w := range boxes[i] {
			l = append(l, &boxes[i][w].U, &boxes[i][w].V)
		}
	}
	return l
}

func copyShown(s api.Shown) api.Shown {
	return api.Shown{A: slices.Clone(s.A), B: slices.Clone(s.B), P: slices.Clone(s.P),
		Proof: api.Proof{Commit: slices.Clone(s.Proof.Commit), Answers: slices.Clone(s.Proof.Answers)}}
}

// listsOf are the lists of a proof, which may be written to.
func listsOf(s *api.Shown) []*[]uint64 {
	return []*[]uint64{&s.A, &s.B, &s.P, &s.Proof.Commit, &s.Proof.Answers}
}
