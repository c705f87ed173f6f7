package extract

import (
	"spandrel/api"
	"spandrel/linear"
	"spandrel/modn"
)

// opening: a commitment is G to the m times H to the r.
type opening struct {
	m, r uint64
}

// pair: two openings of one commitment. Where they are unlike, they tell a
// relation of G and H.
type pair struct {
	one, other opening
}

// known: of a leaf: the exponents for which the claim of its talk holds.
type known struct {
	talk    api.Talk
	a, b, d []opening
	t       []uint64 // the last one is t'
	rho     []uint64
}

// knownOfTree answers for each branch what its leaves give away, and true; nil and
// false, if one of them doesn't.
func knownOfTree(g api.Params, t api.Tree) ([][]known, bool) {
	branches := make([][]known, len(t.Branches))
	for i, branch := range t.Branches {
		for talk, leaf := range talksOf(t.A, branch) {
			k, ok := knownOf(g, talk, leaf)
			if !ok {
				return nil, false
			}
			branches[i] = append(branches[i], k)
		}
	}
	return branches, true
}

// knownOf answers what the two ends of a leaf give away, and true; in a group that
// isn't right it may be nothing, and false.
func knownOf(g api.Params, talk api.Talk, leaf api.Leaf) (known, bool) {
	one, other := leaf.Ends[0], leaf.Ends[1]
	w, ok := linear.Extract(g, one.E, one.Answers, other.E, other.Answers)
	if !ok {
		return known{}, false
	}
	n := len(talk.A)
	return known{
		talk: talk,
		a:    openings(w[:n], w[n:2*n]),
		b:    openings(w[2*n:3*n], w[3*n:4*n]),
		d:    openings(w[4*n:5*n], w[5*n:6*n]),
		t:    w[6*n : 7*n],
		rho:  w[7*n:],
	}, true
}

func openings(m, r []uint64) []opening {
	l := make([]opening, len(m))
	for i := range m {
		l[i] = opening{m[i], r[i]}
	}
	return l
}

// openedTwice answers all commitments that are opened more than once. A is one
// list in the whole tree, B one in each branch, and D and P belong to each leaf.
func openedTwice(g api.Params, branches [][]known) []pair {
	var l []pair
	for _, branch := range branches {
		for _, k := range branch {
			for i := range k.a {
				l = append(l,
					pair{branches[0][0].a[i], k.a[i]},
					pair{branch[0].b[i], k.b[i]},
					pair{joined(g, k.talk, k.a[i], k.b[i]), k.d[i]},
				)
			}
			l = append(l, pair{k.lastProduct(g), k.claimedProduct(g)})
		}
	}
	return l
}

// joined answers how D is opened by whoever opens A and B.
func joined(g api.Params, t api.Talk, a, b opening) opening {
	return opening{
		m: modn.Sub(modn.Add(modn.Mul(t.Y, a.m, g.Q), b.m, g.Q), t.Z, g.Q),
		r: modn.Add(modn.Mul(t.Y, a.r, g.Q), b.r, g.Q),
	}
}

// lastProduct answers how the last of P is opened by d and t, place by place.
func (k known) lastProduct(g api.Params) opening {
	// P of 0 is D of 0.
	p := k.d[0]
	for i, d := range k.d[1:] {
		p = opening{
			m: modn.Mul(p.m, d.m, g.Q),
			r: modn.Add(modn.Mul(p.r, d.m, g.Q), k.t[i], g.Q),
		}
	}
	return p
}

// claimedProduct answers how the last of P is opened by t': as the product of
// those factors that everybody knows.
func (k known) claimedProduct(g api.Params) opening {
	p := opening{m: 1, r: k.t[len(k.t)-1]}
	for j := uint64(1); j <= uint64(len(k.a)); j++ {
		factor := joined(g, k.talk, opening{m: j}, opening{m: modn.Pow(k.talk.X, j, g.Q)})
		p.m = modn.Mul(p.m, factor.m, g.Q)
	}
	return p
}
