package shuffle

import (
	"spandrel/api"
	"spandrel/group"
	"spandrel/modn"
)

// Claim answers the claim of the talk t, for the key y and the batches in and
// out, and true; the zero claim and false, if sizes differ, something isn't an
// element, or P of 0 isn't D of 0.
func Claim(g api.Params, y uint64, in, out []api.Box, t api.Talk) (api.Claim, bool) {
	if !sizesFit(in, out, t) || !allElements(g, y, in, out, t) || t.P[0] != joined(g, t, 0) {
		return api.Claim{}, false
	}
	l := layout{n: len(in)}
	l.addCommitments(g, t)
	l.addProducts(g, t)
	for w := range api.Width {
		l.addSums(g, y, in, out, t, w)
	}
	return l.claim, true
}

func sizesFit(in, out []api.Box, t api.Talk) bool {
	n := len(in)
	return isCount(n) && len(out) == n && len(t.A) == n && len(t.B) == n && len(t.P) == n
}

func allElements(g api.Params, y uint64, in, out []api.Box, t api.Talk) bool {
	return group.In(g, y) && isBatch(g, in) && isBatch(g, out) &&
		areElements(g, t.A) && areElements(g, t.B) && areElements(g, t.P)
}

// sizeOf answers how many exponents the claim about n boxes is of.
func sizeOf(n int) int {
	return 7*n + api.Width
}

// layout: a claim about n boxes while it is being laid out. Its methods named for
// an exponent answer at which place that one stands.
type layout struct {
	n     int
	claim api.Claim
}

func (l *layout) a(i int) int      { return i }
func (l *layout) r(i int) int      { return l.n + i }
func (l *layout) b(i int) int      { return 2*l.n + i }
func (l *layout) s(i int) int      { return 3*l.n + i }
func (l *layout) d(i int) int      { return 4*l.n + i }
func (l *layout) u(i int) int      { return 5*l.n + i }
func (l *layout) t(i int) int      { return 6*l.n + i }
func (l *layout) tLast() int       { return 7*l.n - 1 }
func (l *layout) rho(pair int) int { return 7*l.n + pair }

// add puts a target in, and answers its row, in which no base counts yet.
func (l *layout) add(target uint64) []uint64 {
	row := make([]uint64, sizeOf(l.n))
	for i := range row {
		row[i] = 1
	}
	l.claim.Targets = append(l.claim.Targets, target)
	l.claim.Bases = append(l.claim.Bases, row)
	return row
}

// addCommitments claims that A, B and D are commitments of a, b and d.
func (l *layout) addCommitments(g api.Params, t api.Talk) {
	for i, x := range t.A {
		row := l.add(x)
		row[l.a(i)], row[l.r(i)] = g.G, g.H
	}
	for i, x := range t.B {
		row := l.add(x)
		row[l.b(i)], row[l.s(i)] = g.G, g.H
	}
	for i := range l.n {
		row := l.add(joined(g, t, i))
		row[l.d(i)], row[l.u(i)] = g.G, g.H
	}
}

// addProducts claims that P are commitments of the products of the first of d, and
// that the product of all is k.
func (l *layout) addProducts(g api.Params, t api.Talk) {
	for i := 1; i < l.n; i++ {
		row := l.add(t.P[i])
		row[l.d(i)], row[l.t(i-1)] = t.P[i-1], g.H
	}
	row := l.add(group.Over(g, t.P[l.n-1], group.Exp(g, g.G, productOfFactors(g, t, l.n))))
	row[l.tLast()] = g.H
}

// productOfFactors answers k: what the factors come to for whoever doesn't know
// the order.
func productOfFactors(g api.Params, t api.Talk, n int) uint64 {
	k := uint64(1)
	for j := 1; j <= n; j++ {
		k = modn.Mul(k, factor(g, t, uint64(j)), g.Q)
	}
	return k
}

// addSums claims of one pair of each box that those of in to the powers of X, and
// those of out to the powers b, are the same, but for a draw.
func (l *layout) addSums(g api.Params, y uint64, in, out []api.Box, t api.Talk, w int) {
	target := api.Pair{U: 1, V: 1}
	for j, box := range in {
		power := modn.Pow(t.X, uint64(j)+1, g.Q)
		target.U = group.Prod(g, target.U, group.Exp(g, box[w].U, power))
		target.V = group.Prod(g, target.V, group.Exp(g, box[w].V, power))
	}
	rowU, rowV := l.add(target.U), l.add(target.V)
	for i, box := range out {
		rowU[l.b(i)], rowV[l.b(i)] = box[w].U, box[w].V
	}
	rowU[l.rho(w)], rowV[l.rho(w)] = g.G, y
}
