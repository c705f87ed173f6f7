package extract

import (
	"slices"

	"spandrel/api"
)

// hidden is a box of which all is known: of each pair by which draw it was sealed,
// and which exponent of G is sealed in it.
type hidden struct {
	draws, notes [api.Width]int
}

// said is what is said in a leaf of what A, B and D are commitments of.
type said struct {
	a, b, d []int
}

// liar knows which exponent of G each element is, H among them: so it opens a
// commitment to whatever it likes, whenever it is asked.
type liar struct {
	g         api.Params
	q, h, key int
	in, out   []hidden
	asked     api.Tree
	a         []int   // A, as exponents of G
	b         [][]int // of each branch, B
}

// logOf answers which exponent of G x is.
func logOf(g api.Params, x uint64) int {
	for e := range int(g.Q) {
		if power(g, g.G, uint64(e)) == x {
			return e
		}
	}
	panic("x is no power of G")
}

// liarOf answers one of n boxes, in which notes are sealed: the note of a box in
// its first pair, twice and three times it in the others.
func liarOf(g api.Params, in, out []int, asked api.Tree) *liar {
	n := len(in)
	l := &liar{g: g, q: int(g.Q), h: logOf(g, g.H), key: 3, asked: asked, a: someInts(g, 70, n)}
	for i := range n {
		l.in = append(l.in, hiddenOf(g, uint64(80+i), in[i]))
		l.out = append(l.out, hiddenOf(g, uint64(90+i), out[i]))
		l.b = append(l.b, someInts(g, uint64(75+i), n))
	}
	return l
}

func hiddenOf(g api.Params, seed uint64, note int) hidden {
	return hidden{draws: [api.Width]int(someInts(g, seed, api.Width)), notes: [api.Width]int{note, 2 * note, 3 * note}}
}

// someInts are n of them, from 1 up to below Q.
func someInts(g api.Params, seed uint64, n int) []int {
	var l []int
	for _, x := range drawn(seed, n) {
		l = append(l, int(1+x%(g.Q-1)))
	}
	return l
}

func (l *liar) mod(x int) int { return (x%l.q + l.q) % l.q }

// over answers x over y modulo Q.
func (l *liar) over(x, y int) int {
	for i := range l.q {
		if l.mod(i*l.mod(y)) == 1 {
			return l.mod(l.mod(x) * i)
		}
	}
	panic("nothing makes 1 of y")
}

// product modulo Q.
func (l *liar) product(factors []int) int {
	p := 1
	for _, f := range factors {
		p = l.mod(p * l.mod(f))
	}
	return p
}

// xTo is the X of the leaf at p to the j.
func (l *liar) xTo(p [3]int, j int) int {
	return l.product(slices.Repeat([]int{int(l.asked.Branches[p[0]].X % l.g.Q)}, j))
}

func (l *liar) y(p [3]int) int { return int(l.asked.Branches[p[0]].Twigs[p[1]].Y % l.g.Q) }
func (l *liar) z(p [3]int) int { return int(leafAt(l.asked, p).Z % l.g.Q) }

// factors are those that a and b tell in the leaf at p.
func (l *liar) factors(p [3]int, a, b []int) []int {
	var d []int
	for i := range a {
		d = append(d, l.mod(l.y(p)*a[i]+b[i]-l.z(p)))
	}
	return d
}

// factorsAsked are those of one who says no lie, and mixed by the order as it stands.
func (l *liar) factorsAsked(p [3]int) []int {
	var a, b []int
	for j := 1; j <= len(l.in); j++ {
		a, b = append(a, j), append(b, l.xTo(p, j))
	}
	return l.factors(p, a, b)
}

// otherFactors are some, others for each leaf, but of the product that is asked.
func (l *liar) otherFactors(p [3]int) []int {
	n := len(l.in)
	k := l.product(l.factorsAsked(p))
	d := someInts(l.g, uint64(1000*p[0]+100*p[1]+p[2]), n-1)
	return append(d, l.over(k, l.product(d)))
}

// leaves goes through the places of all of them.
func (l *liar) leaves() [][3]int {
	var places [][3]int
	for i, branch := range l.asked.Branches {
		for j, twig := range branch.Twigs {
			for k := range twig.Leaves {
				places = append(places, [3]int{i, j, k})
			}
		}
	}
	return places
}

func (l *liar) element(exponent int) uint64 {
	return power(l.g, l.g.G, uint64(l.mod(exponent)))
}

func (l *liar) elements(exponents []int) []uint64 {
	var all []uint64
	for _, e := range exponents {
		all = append(all, l.element(e))
	}
	return all
}

func (l *liar) boxes(from []hidden) []api.Box {
	var boxes []api.Box
	for _, h := range from {
		var box api.Box
		for w := range box {
			box[w] = api.Pair{U: l.element(h.draws[w]), V: l.element(l.key*h.draws[w] + h.notes[w])}
		}
		boxes = append(boxes, box)
	}
	return boxes
}

// tree answers the full tree in which just that is said.
func (l *liar) tree(say func(p [3]int) said) grown {
	w := grown{g: l.g, y: l.element(l.key), in: l.boxes(l.in), out: l.boxes(l.out), tree: copyTree(l.asked)}
	w.tree.A = l.elements(l.a)
	for i := range w.tree.Branches {
		w.tree.Branches[i].B = l.elements(l.b[i])
	}
	for i, p := range l.leaves() {
		exponents, products := l.opened(p, say(p), someInts(l.g, uint64(2000+i), len(l.in)))
		leaf := leafAt(w.tree, p)
		leaf.P = l.elements(products)
		branch := w.tree.Branches[p[0]]
		talk := api.Talk{A: w.tree.A, X: branch.X, B: branch.B, Y: branch.Twigs[p[1]].Y, Z: leaf.Z, P: leaf.P}
		fill(l.g, w.y, w.in, w.out, talk, leaf, exponents, drawn(uint64(3000+i), len(exponents)))
	}
	return w
}

// opened answers the exponents for which the claim of the leaf at p holds, and P,
// by the draws t, as exponents of G.
func (l *liar) opened(p [3]int, s said, t []int) (exponents []uint64, products []int) {
	n := len(l.in)
	joined := l.factors(p, l.a, l.b[p[0]]) // D, as exponents of G
	products = []int{joined[0]}
	for i := 1; i < n; i++ {
		products = append(products, l.mod(products[i-1]*s.d[i]+l.h*t[i]))
	}
	last := l.over(products[n-1]-l.product(l.factorsAsked(p)), l.h)
	all := slices.Concat(s.a, l.rests(l.a, s.a), s.b, l.rests(l.b[p[0]], s.b), s.d, l.rests(joined, s.d), t[1:], []int{last})
	for w := range api.Width {
		sum := 0
		for i := range n {
			sum += l.xTo(p, i+1)*l.in[i].draws[w] - s.b[i]*l.out[i].draws[w]
		}
		all = append(all, sum)
	}
	for _, x := range all {
		exponents = append(exponents, uint64(l.mod(x)))
	}
	return exponents, products
}

// rests answers of each commitment the exponent of H, where that of G is what is said.
func (l *liar) rests(commitments, said []int) []int {
	var rests []int
	for i, c := range commitments {
		rests = append(rests, l.over(c-said[i], l.h))
	}
	return rests
}

// isMixed answers whether the notes of out are those of in, in any order: only then
// there is a way.
func (l *liar) isMixed() bool {
	notes := func(boxes []hidden) []int {
		var all []int
		for _, h := range boxes {
			all = append(all, l.mod(h.notes[0]))
		}
		slices.Sort(all)
		return all
	}
	return slices.Equal(notes(l.in), notes(l.out))
}

// lies answers what is opened unlike: of A and B also whether in leaves of one twig,
// or else in twigs of one branch, or else in branches alone.
func (l *liar) lies(say func(p [3]int) said) []string {
	var found []string
	add := func(name string) {
		if !slices.Contains(found, name) {
			found = append(found, name)
		}
	}
	of := map[[3]int]said{}
	for _, p := range l.leaves() {
		s := say(p)
		of[p] = s
		if d := l.factors(p, s.a, s.b); !slices.EqualFunc(d, s.d, l.same) {
			add("D")
		}
		if l.product(s.d) != l.product(l.factorsAsked(p)) {
			add("P")
		}
	}
	if where := l.unlikeWhere(func(p [3]int) []int { return of[p].a }); where != "" {
		add("A in a " + where)
	}
	// B's of two branches are unlike commitments.
	if where := l.unlikeWhere(func(p [3]int) []int { return of[p].b }); where == "twig" || where == "branch" {
		add("B in a " + where)
	}
	slices.Sort(found)
	return found
}

func (l *liar) same(x, y int) bool { return l.mod(x) == l.mod(y) }

// unlikeWhere answers the least part of the tree in which two leaves say a list unlike.
func (l *liar) unlikeWhere(list func(p [3]int) []int) string {
	parts := []string{"twig", "branch", "tree", ""}
	least := 3
	for _, p := range l.leaves() {
		for _, o := range l.leaves() {
			if slices.EqualFunc(list(p), list(o), l.same) {
				continue
			}
			part := 2
			if p[0] == o[0] {
				part = 1
			}
			if p[0] == o[0] && p[1] == o[1] {
				part = 0
			}
			least = min(least, part)
		}
	}
	return parts[least]
}
