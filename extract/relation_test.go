package extract

import (
	"fmt"
	"slices"
	"testing"

	"spandrel/api"
	"spandrel/modn"
)

// checkLies checks that the tree in which that is said, by which just these
// commitments are opened unlike, gives a way or a relation away; where out isn't
// mixed of in, that can be a relation alone.
func (l *liar) checkLies(t *testing.T, name string, say func(p [3]int) said, lies ...string) {
	t.Helper()
	name = fmt.Sprint(name, ", ", lies)
	if got := l.lies(say); !slices.Equal(got, lies) {
		t.Errorf("P %d, %d boxes, %s: unlike are %v", l.g.P, len(l.in), name, got)
	}
	w := l.tree(say)
	f := checkGiven(t, name, w.g, w.y, w.in, w.out, w.tree)
	if !l.isMixed() && f.Kind != 2 {
		t.Errorf("P %d, %d boxes, %s: nothing was mixed, but Extract is %v", l.g.P, len(l.in), name, f)
	}
	if f.Kind == 2 && (l.mod(int(f.Alpha%l.g.Q)+l.h*int(f.Beta%l.g.Q)) != 0) {
		t.Errorf("P %d, %d boxes, %s: H is G to the %d, and Extract %v", l.g.P, len(l.in), name, l.h, f)
	}
}

// notes of n boxes: those of other are no order of those of some.
func someNotes(n int) []int  { return []int{1, 2, 4}[:n] }
func otherNotes(n int) []int { return []int{3, 1, 2}[:n] }

// forLiars goes through small groups and counts of boxes: in Q of 5 two boxes have
// five Y's, and so one of 0.
func forLiars(check func(g api.Params, n int)) {
	for _, g := range smallGroups() {
		for n := 1; n <= mostOf(g); n++ {
			check(g, n)
		}
	}
}

// askedWithout has no Y of 0 modulo Q.
func askedWithout(g api.Params, n int) api.Tree {
	t := fullyAsked(g, 11, n)
	for i := range t.Branches {
		for j, y := range unlike(g, uint64(i), n*n+1, true) {
			t.Branches[i].Twigs[j].Y = y
		}
	}
	return t
}

// powers are what one says of B, in the leaf at p, who mixed by the order.
func (l *liar) powers(p [3]int, order []int) []int {
	var b []int
	for _, place := range order {
		b = append(b, l.xTo(p, place+1))
	}
	return b
}

func placesOf(order []int) []int {
	var a []int
	for _, place := range order {
		a = append(a, place+1)
	}
	return a
}

// truth is what one says who mixed by the order.
func (l *liar) truth(p [3]int, order []int) said {
	a, b := placesOf(order), l.powers(p, order)
	return said{a, b, l.factors(p, a, b)}
}

// suiting are b by which, in each branch, the notes of out are those of in, as the
// last equations ask, though out isn't mixed of in.
func (l *liar) suiting(p [3]int) []int {
	b := someInts(l.g, uint64(40+p[0]), len(l.in))
	sum := 0
	for i := range b {
		sum += l.xTo(p, i+1) * l.in[i].notes[0]
		if i > 0 {
			sum -= b[i] * l.out[i].notes[0]
		}
	}
	b[0] = l.over(sum, l.out[0].notes[0])
	return b
}

// nonsense is no order, and the same one always.
func nonsense(n int) []int { return []int{3, 3, 4}[:n] }

// TestTruths: what a liar says is full and a way, where it says no lie.
func TestTruths(t *testing.T) {
	t.Parallel()
	forLiars(func(g api.Params, n int) {
		for _, order := range allOrders(n) {
			out := make([]int, n)
			for i, place := range order {
				out[i] = someNotes(n)[place]
			}
			l := liarOf(g, someNotes(n), out, fullyAsked(g, 11, n))
			say := func(p [3]int) said { return l.truth(p, order) }
			l.checkLies(t, "truth", say)
			w := l.tree(say)
			if f := Extract(w.g, w.y, w.in, w.out, w.tree); f.Kind != 1 || !slices.Equal(f.Perm, order) {
				t.Errorf("P %d: Extract by %d is %v", g.P, order, f)
			}
		}
	})
}

// TestLiesOfP: A and B are said to be nonsense, always the same, and P of n - 1 is
// opened as what nonsense makes, and as what is asked.
func TestLiesOfP(t *testing.T) {
	t.Parallel()
	forLiars(func(g api.Params, n int) {
		l := liarOf(g, someNotes(n), otherNotes(n), fullyAsked(g, 11, n))
		l.checkLies(t, "nonsense", func(p [3]int) said {
			a, b := nonsense(n), l.suiting(p)
			return said{a, b, l.factors(p, a, b)}
		}, "P")
	})
}

// TestLiesOfD: as above, but D is opened unlike, so that P isn't.
func TestLiesOfD(t *testing.T) {
	t.Parallel()
	forLiars(func(g api.Params, n int) {
		l := liarOf(g, someNotes(n), otherNotes(n), fullyAsked(g, 11, n))
		l.checkLies(t, "nonsense", func(p [3]int) said {
			return said{nonsense(n), l.suiting(p), l.otherFactors(p)}
		}, "D")
		l.checkLies(t, "nonsense", func(p [3]int) said {
			return said{nonsense(n), l.suiting(p), someInts(g, uint64(p[1]+7*p[2]), n)}
		}, "D", "P")
	})
}

// TestLiesThatOneTwigDoesNotTell: nonsense that is as asked by accident, in one twig
// of each branch.
func TestLiesThatOneTwigDoesNotTell(t *testing.T) {
	t.Parallel()
	forLiars(func(g api.Params, n int) {
		notes := make([]int, n)
		l := liarOf(g, notes, notes, fullyAsked(g, 11, n))
		for _, j := range []int{0, n * n, 1} {
			meeting := func(p [3]int) []int {
				y := l.y([3]int{p[0], j, 0})
				var b []int
				for i, a := range nonsense(n) {
					b = append(b, l.mod(y*(i+1)+l.xTo(p, i+1)-y*a))
				}
				return b
			}
			l.checkLies(t, "nonsense but in a twig", func(p [3]int) said {
				return said{nonsense(n), meeting(p), l.factors(p, nonsense(n), meeting(p))}
			}, "P")
			l.checkLies(t, "nonsense but in a twig", func(p [3]int) said {
				d := l.factors(p, nonsense(n), meeting(p))
				if l.product(d) != l.product(l.factorsAsked(p)) {
					d = l.otherFactors(p)
				}
				return said{nonsense(n), meeting(p), d}
			}, "D")
		}
	})
}

// TestLiesThatOneLeafDoesNotTell: nonsense that is as asked by accident, in the first
// leaf of each twig.
func TestLiesThatOneLeafDoesNotTell(t *testing.T) {
	t.Parallel()
	notes := make([]int, 2)
	l := liarOf(small(), notes, notes, askedWithout(small(), 2))
	b := func(p [3]int) []int { return []int{5 + p[0], 7} }
	for _, p := range l.leaves() {
		leaf := leafAt(l.asked, p)
		leaf.Z = 2000 + uint64(p[2])
		if p[2] == 0 {
			for leaf.Z = 0; l.product(l.factors(p, nonsense(2), b(p))) != l.product(l.factorsAsked(p)); {
				leaf.Z++
			}
		}
	}
	l.checkLies(t, "nonsense but in a leaf", func(p [3]int) said {
		return said{nonsense(2), b(p), l.factors(p, nonsense(2), b(p))}
	}, "P")
	l.checkLies(t, "nonsense but in a leaf", func(p [3]int) said {
		d := l.factors(p, nonsense(2), b(p))
		if p[2] > 0 {
			d = l.otherFactors(p)
		}
		return said{nonsense(2), b(p), d}
	}, "D")
}

// TestLiesOfOneLeaf: of one who mixed, and says elsewhere what is true.
func TestLiesOfOneLeaf(t *testing.T) {
	t.Parallel()
	forLiars(func(g api.Params, n int) {
		if n == 1 {
			return // D of one box is what is asked, where P is
		}
		notes := make([]int, n)
		l := liarOf(g, notes, notes, askedUnder(g, n))
		l.setXs()
		order := allOrders(n)[1]
		for _, p := range somePlaces(n) {
			only := func(lie said) func(o [3]int) said {
				return func(o [3]int) said {
					if o == p {
						return lie
					}
					return l.truth(o, order)
				}
			}
			s, d := l.truth(p, order), l.otherFactors(p)
			l.checkLies(t, "one leaf", only(said{s.a, s.b, d}), "D")
			l.checkLies(t, "one leaf", only(said{s.a, l.bFor(p, s.a, d), d}), "B in a twig")
			other := allOrders(n)[0]
			l.checkLies(t, "one leaf", only(l.truth(p, other)), "A in a twig", "B in a twig")
			if l.y(p) != 0 {
				l.checkLies(t, "one leaf", only(said{l.aFor(p, s.b, d), s.b, d}), "A in a twig")
			}
			d = append(slices.Repeat([]int{1}, n-1), 1+l.product(s.d))
			l.checkLies(t, "one leaf", only(said{s.a, s.b, d}), "D", "P")
		}
	})
}

// askedUnder has Y's of 0 modulo Q in Q of 5 alone.
func askedUnder(g api.Params, n int) api.Tree {
	if uint64(n*n+1) < g.Q {
		return askedWithout(g, n)
	}
	return fullyAsked(g, 11, n)
}

// aFor and bFor answer what A, or B, is to be said, so that D comes to d.
func (l *liar) aFor(p [3]int, b, d []int) []int {
	var a []int
	for i := range d {
		a = append(a, l.over(d[i]-b[i]+l.z(p), l.y(p)))
	}
	return a
}

func (l *liar) bFor(p [3]int, a, d []int) []int {
	var b []int
	for i := range d {
		b = append(b, l.mod(d[i]-l.y(p)*a[i]+l.z(p)))
	}
	return b
}

// TestLiesOfAInATwig: each leaf says A by itself, as its D is to come to what is
// asked; B is nonsense.
func TestLiesOfAInATwig(t *testing.T) {
	t.Parallel()
	forLiars(func(g api.Params, n int) {
		if n == 1 || uint64(n*n+1) >= g.Q {
			return // there D comes to what is asked by one A alone, or, of a Y of 0, by none
		}
		l := liarOf(g, someNotes(n), otherNotes(n), askedWithout(g, n))
		l.checkLies(t, "each leaf", func(p [3]int) said {
			b, d := l.suiting(p), l.otherFactors(p)
			return said{l.aFor(p, b, d), b, d}
		}, "A in a twig")
	})
}

// TestLiesOfAWhereYIs0: A plays no part there, so that each leaf says it by itself,
// also of one box.
func TestLiesOfAWhereYIs0(t *testing.T) {
	t.Parallel()
	forLiars(func(g api.Params, n int) {
		notes := someNotes(n)
		l := liarOf(g, notes, notes, fullyAsked(g, 11, n))
		for i, branch := range l.asked.Branches {
			for j, y := range unlike(g, uint64(n-1-i)*g.Q, len(branch.Twigs), false) {
				l.asked.Branches[i].Twigs[j].Y = y
			}
		}
		l.checkLies(t, "Y of 0", func(p [3]int) said {
			s := l.truth(p, allOrders(n)[0])
			if l.y(p) == 0 {
				s.a = someInts(g, uint64(p[2]), n)
			}
			return s
		}, "A in a twig")
	})
}

// TestLiesOfAInABranch: each twig says A by itself, as its D's come to those that are
// asked; B is nonsense.
func TestLiesOfAInABranch(t *testing.T) {
	t.Parallel()
	forLiars(func(g api.Params, n int) {
		if uint64(n*n+1) >= g.Q {
			return // of a Y of 0 D doesn't come to what is asked
		}
		l := liarOf(g, someNotes(n), otherNotes(n), askedWithout(g, n))
		for _, order := range allOrders(n) {
			l.checkLies(t, fmt.Sprint("each twig by ", order), func(p [3]int) said {
				b, d := l.suiting(p), l.factors(p, placesOf(order), l.powers(p, order))
				return said{l.aFor(p, b, d), b, d}
			}, "A in a branch")
		}
	})
}

// TestLiesOfAInTheTree: each branch says another order, and out is what all of them
// together make of in: it isn't mixed of in.
func TestLiesOfAInTheTree(t *testing.T) {
	t.Parallel()
	forLiars(func(g api.Params, n int) {
		if n == 1 {
			return // there is one order
		}
		orders := allOrders(n)
		for i := range orders {
			notes := make([]int, n)
			l := liarOf(g, notes, notes, fullyAsked(g, 11, n))
			l.setXs()
			orderOf := func(p [3]int) []int { return orders[(i+p[0])%len(orders)] }
			l.setNotes(orderOf)
			l.checkLies(t, fmt.Sprint("each branch by another order than ", orders[i]), func(p [3]int) said {
				return l.truth(p, orderOf(p))
			}, "A in a tree")
		}
	})
}

// setXs puts X's in that aren't 1: those ask the same of all orders.
func (l *liar) setXs() {
	for k := range l.asked.Branches {
		l.asked.Branches[k].X = uint64(k + 2)
	}
}

// setNotes puts notes into in and out by which the last equations hold, where each
// branch says its own order, though out isn't mixed of in.
func (l *liar) setNotes(orderOf func(p [3]int) []int) {
	n := len(l.in)
	for seed := uint64(33); l.isMixed(); seed++ {
		out := someInts(l.g, seed, n)
		in := l.notesFor(out, orderOf)
		for i := range n {
			l.in[i], l.out[i] = hiddenOf(l.g, uint64(80+i), in[i]), hiddenOf(l.g, uint64(90+i), out[i])
		}
	}
}

// notesFor answers, by Cramer's rule, the notes of in.
func (l *liar) notesFor(out []int, orderOf func(p [3]int) []int) []int {
	n := len(out)
	rows := make([][]int, n)
	sums := make([]int, n)
	for k := range n {
		p := [3]int{k}
		rows[k], sums[k] = l.powers(p, inTurn(n)), l.noteSum(p, out, orderOf(p))
	}
	in := make([]int, n)
	for i := range n {
		replaced := make([][]int, n)
		for k := range n {
			replaced[k] = slices.Clone(rows[k])
			replaced[k][i] = sums[k]
		}
		in[i] = l.over(l.determinant(replaced), l.determinant(rows))
	}
	return in
}

func (l *liar) determinant(rows [][]int) int {
	sum := 0
	for _, order := range allOrders(len(rows)) {
		term := 1
		for i, place := range order {
			term = l.mod(term * rows[i][place])
			for _, later := range order[i+1:] {
				if later < place {
					term = -term
				}
			}
		}
		sum += term
	}
	return l.mod(sum)
}

// noteSum is the sum of notes times X to their places.
func (l *liar) noteSum(p [3]int, notes, order []int) int {
	sum := 0
	for i, b := range l.powers(p, order) {
		sum += b * notes[i]
	}
	return l.mod(sum)
}

// TestLiesOfBInATwig: each leaf says B by itself, as its D is to come to what is
// asked; A is nonsense.
func TestLiesOfBInATwig(t *testing.T) {
	t.Parallel()
	forLiars(func(g api.Params, n int) {
		if n == 1 {
			return // there D comes to what is asked by one B alone
		}
		notes := make([]int, n)
		l := liarOf(g, notes, notes, fullyAsked(g, 11, n))
		l.checkLies(t, "each leaf", func(p [3]int) said {
			a, d := nonsense(n), l.otherFactors(p)
			return said{a, l.bFor(p, a, d), d}
		}, "B in a twig")
	})
}

// TestLiesOfBInABranch: each twig says B by itself, as its D's come to those that are
// asked; A is nonsense.
func TestLiesOfBInABranch(t *testing.T) {
	t.Parallel()
	forLiars(func(g api.Params, n int) {
		notes := make([]int, n)
		l := liarOf(g, notes, notes, fullyAsked(g, 11, n))
		for _, order := range allOrders(n) {
			l.checkLies(t, fmt.Sprint("each twig by ", order), func(p [3]int) said {
				a, d := nonsense(n), l.factors(p, placesOf(order), l.powers(p, order))
				return said{a, l.bFor(p, a, d), d}
			}, "B in a branch")
		}
	})
}

// TestLiesOfAAndB: each leaf says A by itself, and B so that its D's are those that are
// asked: also of one box.
func TestLiesOfAAndB(t *testing.T) {
	t.Parallel()
	forLiars(func(g api.Params, n int) {
		notes := make([]int, n)
		l := liarOf(g, notes, notes, fullyAsked(g, 11, n))
		l.checkLies(t, "each leaf", func(p [3]int) said {
			a, d := someInts(g, uint64(4000+100*p[0]+10*p[1]+p[2]), n), l.factorsAsked(p)
			return said{a, l.bFor(p, a, d), d}
		}, "A in a twig", "B in a twig")
	})
}

// TestLiesOfTwoOrders: of the same notes, said in turn by leaves, by twigs, or by
// branches.
func TestLiesOfTwoOrders(t *testing.T) {
	t.Parallel()
	forLiars(func(g api.Params, n int) {
		if n == 1 {
			return
		}
		l := liarOf(g, slices.Repeat([]int{2}, n), slices.Repeat([]int{2}, n), fullyAsked(g, 11, n))
		orders := allOrders(n)
		for level, lies := range [][]string{{"A in a tree"}, {"A in a branch", "B in a branch"}, {"A in a twig", "B in a twig"}} {
			l.checkLies(t, "orders in turn", func(p [3]int) said {
				return l.truth(p, orders[p[level]%len(orders)])
			}, lies...)
			// In the last place of all alone.
			last := [3]int{n - 1, n * n, n}
			l.checkLies(t, "another order at last", func(p [3]int) said {
				if slices.Equal(p[:level+1], last[:level+1]) {
					return l.truth(p, orders[1])
				}
				return l.truth(p, orders[0])
			}, lies...)
		}
	})
}

// TestLiesInTheVastGroup: of one who knows that H is G to the 5, laid A down once, and
// says two orders of it, one in each branch.
func TestLiesInTheVastGroup(t *testing.T) {
	t.Parallel()
	g := largest()
	g.H = power(g, g.G, 5)
	fifth, _ := modn.Inv(5, g.Q)
	one := mixerOf(g, slices.Repeat(someBoxes(g, 1), 2), []int{0, 1})
	other := mixerOf(g, one.in, []int{1, 0})
	one.rho[1], other.rho = one.rho[0], one.rho
	// A of 0 is said to be of 2, one more, and A of 1 to be of 1, one less.
	other.r = []uint64{modn.Sub(one.r[0], fifth, g.Q), modn.Add(one.r[1], fifth, g.Q)}
	out, tree := one.talks(fullyAsked(g, 3, 2))
	same, second := other.talks(fullyAsked(g, 3, 2))
	if !slices.Equal(same, out) || !slices.Equal(second.A, tree.A) {
		t.Fatal("not the same was mixed, or laid down")
	}
	tree.Branches[1] = second.Branches[1]
	f := checkGiven(t, "two orders", g, one.y, one.in, out, tree)
	if f.Kind != 2 || modn.Add(f.Alpha, modn.Mul(5, f.Beta, g.Q), g.Q) != 0 {
		t.Errorf("Extract is %v", f)
	}
}
