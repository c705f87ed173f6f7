package shuffle

import (
	"slices"

	"spandrel/api"
	"spandrel/group"
	"spandrel/modn"
)

// First answers A: of each place of the order, counted from 1 on, a commitment by
// the draws r; nil, if order is none, or r hasn't as many.
func First(g api.Params, order []int, r []uint64) []uint64 {
	if !isOrder(order) || len(r) != len(order) {
		return nil
	}
	l := make([]uint64, len(order))
	for i, j := range counted(order) {
		l[i] = commitment(g, j, r[i])
	}
	return l
}

// Second answers B: of x to each place of the order, counted from 1 on, a
// commitment by the draws s; nil, if order is none, or s hasn't as many.
func Second(g api.Params, order []int, x uint64, s []uint64) []uint64 {
	if !isOrder(order) || len(s) != len(order) {
		return nil
	}
	l := make([]uint64, len(order))
	for i, j := range counted(order) {
		l[i] = commitment(g, modn.Pow(x, j, g.Q), s[i])
	}
	return l
}

// Third answers P: what the factors of one who knows the order come to, place by
// place, in commitments by the draws T of d; nil, if order is none, or A or B of
// t, or T of d, hasn't as many.
func Third(g api.Params, order []int, t api.Talk, d api.Draws) []uint64 {
	n := len(order)
	if !isOrder(order) || len(t.A) != n || len(t.B) != n || len(d.T) != n {
		return nil
	}
	places := counted(order)
	l := make([]uint64, n)
	l[0] = joined(g, t, 0)
	for i := 1; i < n; i++ {
		l[i] = group.Prod(g, group.Exp(g, l[i-1], factor(g, t, places[i])), group.Exp(g, g.H, d.T[i]))
	}
	return l
}

// Exponents answers those for which the claim of the talk t holds, of one who
// mixed by the order and the draws d; nil, if order is none, or Rho, R, S or T of
// d hasn't as many.
func Exponents(g api.Params, order []int, t api.Talk, d api.Draws) []uint64 {
	n := len(order)
	if !isOrder(order) || len(d.Rho) != n || len(d.R) != n || len(d.S) != n || len(d.T) != n {
		return nil
	}
	places := counted(order)
	powers, factors, hidden := make([]uint64, n), make([]uint64, n), make([]uint64, n)
	for i, j := range places {
		powers[i] = modn.Pow(t.X, j, g.Q)
		factors[i] = factor(g, t, j)
		hidden[i] = modn.Add(modn.Mul(t.Y, d.R[i], g.Q), d.S[i], g.Q)
	}
	return slices.Concat(
		reduced(g, places), reduced(g, d.R),
		powers, reduced(g, d.S),
		factors, hidden,
		reduced(g, d.T[1:]),
		[]uint64{lastHidden(g, factors, hidden[0], d.T)},
		drawsBack(g, powers, d.Rho),
	)
}

// counted answers the places of the order from 1 on, as the powers of X begin
// with the first.
func counted(order []int) []uint64 {
	l := make([]uint64, len(order))
	for i, place := range order {
		l[i] = uint64(place) + 1
	}
	return l
}

func commitment(g api.Params, m, r uint64) uint64 {
	return group.Prod(g, group.Exp(g, g.G, m), group.Exp(g, g.H, r))
}

// joined answers D of i: of commitments of a and b it makes one of Y a + b - Z.
func joined(g api.Params, t api.Talk, i int) uint64 {
	return group.Over(g, group.Prod(g, group.Exp(g, t.A[i], t.Y), t.B[i]), group.Exp(g, g.G, t.Z))
}

// factor answers Y j + X to the j - Z modulo Q. Of all j it is the same product
// in any order, which is what the talk is about.
func factor(g api.Params, t api.Talk, j uint64) uint64 {
	// j isn't taken modulo Q, where it is the power to which X is raised: X to
	// the Q isn't 1.
	sum := modn.Add(modn.Mul(t.Y, j, g.Q), modn.Pow(t.X, j, g.Q), g.Q)
	return modn.Sub(sum, t.Z, g.Q)
}

// lastHidden answers t': the power to which H is raised in the last of P.
func lastHidden(g api.Params, factors []uint64, first uint64, t []uint64) uint64 {
	v := first
	for i := 1; i < len(factors); i++ {
		v = modn.Add(modn.Mul(v, factors[i], g.Q), t[i], g.Q)
	}
	return v
}

// drawsBack answers for each pair's place the draw that takes back, of the boxes
// to their powers, what all draws rho put on.
func drawsBack(g api.Params, powers []uint64, rho [][api.Width]uint64) []uint64 {
	l := make([]uint64, api.Width)
	for w := range l {
		for i, power := range powers {
			l[w] = modn.Sub(l[w], modn.Mul(power, rho[i][w], g.Q), g.Q)
		}
	}
	return l
}

// reduced answers the numbers of l modulo Q.
func reduced(g api.Params, l []uint64) []uint64 {
	m := make([]uint64, len(l))
	for i, x := range l {
		// A sum of modn, in place of %, stands a Q of 0.
		m[i] = modn.Add(x, 0, g.Q)
	}
	return m
}
