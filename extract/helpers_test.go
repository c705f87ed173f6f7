package extract

import (
	"math"
	"math/big"
	"slices"
	"testing"

	"spandrel/api"
	"spandrel/group"
	"spandrel/linear"
	"spandrel/shuffle"
)

const greatest = math.MaxUint64

func row(n, a uint64, factors ...uint64) api.Row {
	return api.Row{N: n, A: a, Factors: factors}
}

// eleven has the least P of all groups: its Q is too small for three boxes.
func eleven() api.Params {
	return api.Params{P: 11, Q: 5, G: 4, H: 9, Rows: []api.Row{row(5, 2, 2), row(11, 2, 2, 5)}}
}

// twentyThree has the least P in which trees of three boxes are full.
func twentyThree() api.Params {
	return api.Params{P: 23, Q: 11, G: 4, H: 9, Rows: []api.Row{row(5, 2, 2), row(11, 2, 2, 5), row(23, 5, 2, 11)}}
}

// small is the group of the chapters' examples.
func small() api.Params {
	return api.Params{P: 2027, Q: 1013, G: 4, H: 9, Rows: []api.Row{
		row(5, 2, 2), row(11, 2, 2, 5), row(23, 5, 2, 11), row(1013, 3, 2, 11, 23), row(2027, 2, 2, 1013),
	}}
}

// largest has the greatest P that a group may have, and a G above half of it.
func largest() api.Params {
	return api.Params{P: 1<<62 - 10565, Q: 1<<61 - 5283, G: 1<<62 - 10567, H: 9, Rows: []api.Row{
		row(3, 2, 2), row(5, 2, 2), row(7, 3, 2, 3), row(11, 2, 2, 5), row(2311, 3, 2, 3, 5, 7, 11),
		row(73, 5, 2, 3), row(17, 3, 2), row(23, 5, 2, 11), row(41, 6, 2, 5), row(821, 2, 2, 5, 41),
		row(172411, 3, 2, 3, 5, 7, 821), row(7930907, 2, 2, 23, 172411),
		row(11864636873, 5, 2, 11, 17, 7930907), row(1732236983459, 2, 2, 73, 11864636873),
		row(249442125618097, 5, 2, 3, 1732236983459),
		row(1<<61-5283, 2, 2, 2311, 249442125618097),
		row(1<<62-10565, 2, 2, 1<<61-5283),
	}}
}

func groups() []api.Params { return []api.Params{eleven(), twentyThree(), small(), largest()} }

// smallGroups are those in which a test may find which exponent of G gives H.
func smallGroups() []api.Params { return groups()[:3] }

func TestGroupsOfTheTestsAreRight(t *testing.T) {
	for _, g := range groups() {
		if !group.Right(g) {
			t.Errorf("the group of %d isn't right", g.P)
		}
	}
}

func isVast(g api.Params) bool { return g.Q > 1<<60 }

// mostOf is of how many boxes a tree may be full in a group: of more there aren't as
// many Y's.
func mostOf(g api.Params) int {
	if g.Q < 10 {
		return 2
	}
	return 3
}

func number(x uint64) *big.Int { return new(big.Int).SetUint64(x) }

func power(g api.Params, x, e uint64) uint64 {
	return new(big.Int).Exp(number(x), number(e), number(g.P)).Uint64()
}

func product(g api.Params, l ...uint64) uint64 {
	all := big.NewInt(1)
	for _, x := range l {
		all.Mod(all.Mul(all, number(x)), number(g.P))
	}
	return all.Uint64()
}

// drawn are n numbers of all sizes, others for another seed.
func drawn(seed uint64, n int) []uint64 {
	l := make([]uint64, n)
	for i := range l {
		x := seed*0x9e3779b97f4a7c15 + uint64(i+1)*0xbf58476d1ce4e5b9
		x = (x ^ x>>31) * 0x94d049bb133111eb
		l[i] = (x ^ x>>29) >> (x % 3 * 17)
	}
	return l
}

// elements are n of them, none of them 1.
func elements(g api.Params, seed uint64, n int) []uint64 {
	l := drawn(seed, n)
	for i, x := range l {
		l[i] = power(g, g.G, 1+x%(g.Q-1))
	}
	return l
}

// strangers are numbers that are no elements, though some are, taken modulo P.
func strangers(g api.Params) []uint64 {
	return []uint64{0, g.P - 1, g.P - g.G, g.P, g.P + 1, g.P + g.G, greatest}
}

func TestStrangersAreNoElements(t *testing.T) {
	for _, g := range groups() {
		for _, x := range strangers(g) {
			if group.In(g, x) {
				t.Errorf("P %d: %d is an element", g.P, x)
			}
		}
	}
}

func boxOf(l []uint64) api.Box {
	return api.Box{{U: l[0], V: l[1]}, {U: l[2], V: l[3]}, {U: l[4], V: l[5]}}
}

// someBoxes are a batch of n, unlike in groups that have as many elements.
func someBoxes(g api.Params, n int) []api.Box {
	var in []api.Box
	for i := range n {
		in = append(in, boxOf(elements(g, uint64(100+i), 6)))
	}
	return in
}

// allOrders are all of n, the first one as it stands.
func allOrders(n int) [][]int {
	if n == 0 {
		return [][]int{{}}
	}
	var l [][]int
	for _, order := range allOrders(n - 1) {
		for i := range n {
			l = append(l, slices.Insert(slices.Clone(order), n-1-i, n-1))
		}
	}
	return l
}

// inTurn is the order of n as it stands.
func inTurn(n int) []int { return allOrders(n)[0] }

// unlike are n numbers, the first ones from start on, that are unlike modulo Q, and
// none 0 modulo Q, where without says so. Some of them are above Q.
func unlike(g api.Params, start uint64, n int, without bool) []uint64 {
	var l []uint64
	for i := range uint64(n) {
		x := (start%g.Q + i) % g.Q
		if without {
			x = 1 + (start%(g.Q-1)+i)%(g.Q-1)
		}
		l = append(l, x+i%3*g.Q)
	}
	return l
}

// asked is a tree of challenges alone, unlike ones.
func asked(g api.Params, seed uint64, branches, twigs, leaves int) api.Tree {
	var t api.Tree
	next := func() uint64 {
		seed++
		return drawn(seed, 1)[0]
	}
	for _, x := range unlike(g, next(), branches, true) {
		b := api.Branch{X: x}
		for _, y := range unlike(g, next(), twigs, false) {
			w := api.Twig{Y: y}
			for _, z := range unlike(g, next(), leaves, false) {
				e := unlike(g, next(), 2, false)
				w.Leaves = append(w.Leaves, api.Leaf{Z: z, Ends: [2]api.End{{E: e[1]}, {E: e[0]}}})
			}
			b.Twigs = append(b.Twigs, w)
		}
		t.Branches = append(t.Branches, b)
	}
	return t
}

// fullyAsked has as many challenges as a full tree of n boxes.
func fullyAsked(g api.Params, seed uint64, n int) api.Tree {
	return asked(g, seed, n, n*n+1, n+1)
}

// copyTree shares nothing with what it is a copy of.
func copyTree(t api.Tree) api.Tree {
	t.A = slices.Clone(t.A)
	t.Branches = slices.Clone(t.Branches)
	for i := range t.Branches {
		b := &t.Branches[i]
		b.B, b.Twigs = slices.Clone(b.B), slices.Clone(b.Twigs)
		for j := range b.Twigs {
			w := &b.Twigs[j]
			w.Leaves = slices.Clone(w.Leaves)
			for k := range w.Leaves {
				l := &w.Leaves[k]
				l.P, l.Commit = slices.Clone(l.P), slices.Clone(l.Commit)
				for m := range l.Ends {
					l.Ends[m].Answers = slices.Clone(l.Ends[m].Answers)
				}
			}
		}
	}
	return t
}

// mixer is one who mixed, and is asked for all talks.
type mixer struct {
	g     api.Params
	y     uint64
	in    []api.Box
	order []int
	rho   [][api.Width]uint64
	r     []uint64
	seed  uint64 // of what is drawn once for each branch and each leaf
}

func mixerOf(g api.Params, in []api.Box, order []int) mixer {
	m := mixer{g: g, y: elements(g, 500, 1)[0], in: in, order: order, r: drawn(51, len(in)), seed: 1000}
	for i := range in {
		m.rho = append(m.rho, [api.Width]uint64(drawn(uint64(60+i), api.Width)))
	}
	return m
}

// draws are n numbers that weren't drawn ahead.
func (m *mixer) draws(n int) []uint64 {
	m.seed++
	return drawn(m.seed, n)
}

// out is what was mixed.
func (m *mixer) out() []api.Box {
	out, ok := shuffle.Mix(m.g, m.y, m.in, m.order, m.rho)
	if !ok {
		panic("nothing is mixed")
	}
	return out
}

// talks answers the tree of asked's challenges, of Prove's ways. It draws B's draws
// for each branch, and P's and the proof's for each leaf.
func (m *mixer) talks(asked api.Tree) ([]api.Box, api.Tree) {
	n, out, t := len(m.in), m.out(), copyTree(asked)
	d := api.Draws{Rho: m.rho, R: m.r}
	t.A = shuffle.First(m.g, m.order, d.R)
	for i := range t.Branches {
		b := &t.Branches[i]
		d.S = m.draws(n)
		b.B = shuffle.Second(m.g, m.order, b.X, d.S)
		for j := range b.Twigs {
			for k := range b.Twigs[j].Leaves {
				d.T, d.D = m.draws(n), m.draws(7*n+api.Width)
				l := &b.Twigs[j].Leaves[k]
				talk := api.Talk{A: t.A, X: b.X, B: b.B, Y: b.Twigs[j].Y, Z: l.Z}
				talk.P = shuffle.Third(m.g, m.order, talk, d)
				l.P = talk.P
				fill(m.g, m.y, m.in, out, talk, l, shuffle.Exponents(m.g, m.order, talk, d), d.D)
			}
		}
	}
	return out, t
}

// fill makes the ends of a leaf by the exponents w, for which its claim holds.
func fill(g api.Params, y uint64, in, out []api.Box, talk api.Talk, l *api.Leaf, w, d []uint64) {
	c, ok := shuffle.Claim(g, y, in, out, talk)
	if !ok || !linear.Holds(g, c, w) {
		panic("there is no claim that holds")
	}
	l.Commit, _ = linear.Image(g, c, d)
	for i := range l.Ends {
		l.Ends[i].Answers, _ = linear.Answer(g, w, d, l.Ends[i].E)
	}
}

// isNothing answers whether f has Kind 0 alone.
func isNothing(f api.Found) bool {
	return f.Kind == 0 && len(f.Perm) == 0 && len(f.Rho) == 0 && f.Alpha == 0 && f.Beta == 0
}

// isWay answers whether f is a way alone, and one by which out is mixed of in.
func isWay(g api.Params, y uint64, in, out []api.Box, f api.Found) bool {
	mixed, ok := shuffle.Mix(g, y, in, f.Perm, f.Rho)
	return f.Kind == 1 && f.Alpha == 0 && f.Beta == 0 && ok && slices.Equal(mixed, out)
}

// isRelation answers whether f is a relation alone, and one of G and H.
func isRelation(g api.Params, f api.Found) bool {
	return f.Kind == 2 && len(f.Perm) == 0 && len(f.Rho) == 0 &&
		(f.Alpha%g.Q != 0 || f.Beta%g.Q != 0) &&
		product(g, power(g, g.G, f.Alpha), power(g, g.H, f.Beta)) == 1
}

func checkNotFull(t *testing.T, name string, g api.Params, y uint64, in, out []api.Box, tree api.Tree) {
	t.Helper()
	if Full(g, y, in, out, tree) {
		t.Errorf("P %d, %d boxes, %s: the tree is full", g.P, len(in), name)
	}
	if f := Extract(g, y, in, out, tree); !isNothing(f) {
		t.Errorf("P %d, %d boxes, %s: Extract is %v", g.P, len(in), name, f)
	}
}

// checkGiven checks that a full tree gives a way or a relation away, and answers
// which.
func checkGiven(t *testing.T, name string, g api.Params, y uint64, in, out []api.Box, tree api.Tree) api.Found {
	t.Helper()
	if !Full(g, y, in, out, tree) {
		t.Fatalf("P %d, %d boxes, %s: the tree isn't full", g.P, len(in), name)
	}
	f := Extract(g, y, in, out, tree)
	if !isWay(g, y, in, out, f) && !isRelation(g, f) {
		t.Errorf("P %d, %d boxes, %s: Extract is %v", g.P, len(in), name, f)
	}
	return f
}
