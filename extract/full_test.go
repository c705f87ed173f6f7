package extract

import (
	"fmt"
	"slices"
	"testing"

	"spandrel/api"
	"spandrel/linear"
	"spandrel/modn"
	"spandrel/shuffle"
)

// grown is a full tree of one who mixed, and what it is of.
type grown struct {
	g       api.Params
	y       uint64
	in, out []api.Box
	tree    api.Tree
}

// growBy answers one of the challenges asked.
func growBy(g api.Params, n int, asked api.Tree) grown {
	m := mixerOf(g, someBoxes(g, n), allOrders(n)[0])
	out, tree := m.talks(asked)
	return grown{g, m.y, m.in, out, tree}
}

func grow(g api.Params, n int) grown { return growBy(g, n, fullyAsked(g, 7, n)) }

func (w grown) check(t *testing.T, name string) {
	t.Helper()
	if !Full(w.g, w.y, w.in, w.out, w.tree) {
		t.Errorf("P %d, %d boxes, %s: the tree isn't full", w.g.P, len(w.in), name)
	}
}

func (w grown) checkNot(t *testing.T, name string) {
	t.Helper()
	checkNotFull(t, name, w.g, w.y, w.in, w.out, w.tree)
}

// forAll goes through groups and counts of boxes of which trees may be full: of many
// boxes in small groups alone, as trees of three have 120 leaves.
func forAll(check func(g api.Params, n int)) {
	for _, g := range groups() {
		check(g, 1)
		if !isVast(g) {
			check(g, 2)
		}
	}
	check(twentyThree(), 3)
}

func TestFull(t *testing.T) {
	t.Parallel()
	for _, g := range groups() {
		for n := 1; n <= mostOf(g); n++ {
			for seed := range uint64(3) {
				growBy(g, n, fullyAsked(g, seed, n)).check(t, fmt.Sprint("seed ", seed))
			}
		}
	}
}

// TestFullOfManyCounts: of all counts about those that are asked, but these alone.
func TestFullOfManyCounts(t *testing.T) {
	t.Parallel()
	g := small()
	for n := 1; n <= 2; n++ {
		for branches := range n + 3 {
			for twigs := range n*n + 4 {
				for leaves := range n + 4 {
					w := growBy(g, n, asked(g, 3, branches, twigs, leaves))
					name := fmt.Sprint(branches, " branches of ", twigs, " of ", leaves)
					if branches == n && twigs == n*n+1 && leaves == n+1 {
						w.check(t, name)
						continue
					}
					w.checkNot(t, name)
				}
			}
		}
	}
}

// TestNotFullOfOneMoreOrFewer: of one branch, twig or leaf, in one place alone. What
// is more is of challenges that aren't asked elsewhere.
func TestNotFullOfOneMoreOrFewer(t *testing.T) {
	t.Parallel()
	for _, g := range []api.Params{twentyThree(), small(), largest()} {
		most := 2
		if g.P == 23 {
			most = 3
		}
		for n := 1; n <= most; n++ {
			// Of all that is asked here there is one more than in a full tree.
			twigs := min(n*n+2, int(min(g.Q, 1<<20)))
			rich := asked(g, 5, n+1, twigs, n+2)
			pruned := func(except string) api.Tree {
				tree := copyTree(rich)
				prune(&tree, n, except)
				return tree
			}
			growBy(g, n, pruned("")).check(t, "pruned")
			growBy(g, n, pruned("branches")).checkNot(t, "a branch more")
			for i := range n {
				growBy(g, n, pruned(fmt.Sprint("twigs ", i))).checkNot(t, "a twig more")
				for _, j := range []int{0, n*n/2 + 1, n * n} {
					growBy(g, n, pruned(fmt.Sprint("leaves ", i, " ", j))).checkNot(t, "a leaf more")
				}
			}
			w := growBy(g, n, pruned(""))
			for i := range n {
				fewer := w
				fewer.tree = copyTree(w.tree)
				fewer.tree.Branches = slices.Delete(fewer.tree.Branches, i, i+1)
				fewer.checkNot(t, "a branch fewer")
				for j := range n*n + 1 {
					fewer.tree = copyTree(w.tree)
					b := &fewer.tree.Branches[i]
					b.Twigs = slices.Delete(b.Twigs, j, j+1)
					fewer.checkNot(t, "a twig fewer")
					for k := range n + 1 {
						fewer.tree = copyTree(w.tree)
						l := &fewer.tree.Branches[i].Twigs[j].Leaves
						*l = slices.Delete(*l, k, k+1)
						fewer.checkNot(t, "a leaf fewer")
					}
				}
			}
		}
	}
}

// prune takes away what is more than a full tree of n boxes has, but where except
// says so.
func prune(t *api.Tree, n int, except string) {
	if except != "branches" {
		t.Branches = t.Branches[:n]
	}
	for i := range t.Branches {
		b := &t.Branches[i]
		if except != fmt.Sprint("twigs ", i) {
			b.Twigs = b.Twigs[:n*n+1]
		}
		for j := range b.Twigs {
			if except != fmt.Sprint("leaves ", i, " ", j) {
				b.Twigs[j].Leaves = b.Twigs[j].Leaves[:n+1]
			}
		}
	}
}

// samesOf are numbers that are x modulo Q.
func samesOf(g api.Params, x uint64) []uint64 {
	x %= g.Q
	return []uint64{x, x + g.Q, x + 2*g.Q, x + (greatest-x)/g.Q*g.Q}
}

// TestNotFullOfChallengesThatAreTheSame: as numbers, or modulo Q alone. All else is
// as one who mixed says it.
func TestNotFullOfChallengesThatAreTheSame(t *testing.T) {
	t.Parallel()
	forAll(func(g api.Params, n int) {
		places := [][2]int{{0, 1}, {1, 0}, {n, 0}, {n - 1, n}} // of n + 1
		twigs := append(slices.Clone(places), [2]int{n * n, 0}, [2]int{0, n * n})
		try := func(name string, change func(tree *api.Tree, same func(x uint64) uint64)) {
			for i := range samesOf(g, 0) {
				tree := fullyAsked(g, 7, n)
				change(&tree, func(x uint64) uint64 { return samesOf(g, x)[i] })
				growBy(g, n, tree).checkNot(t, name)
			}
		}
		for i := range n {
			if j := (i + 1) % n; j != i {
				try("X", func(tree *api.Tree, same func(uint64) uint64) {
					tree.Branches[i].X = same(tree.Branches[j].X)
				})
			}
			for _, p := range twigs {
				try("Y", func(tree *api.Tree, same func(uint64) uint64) {
					l := tree.Branches[i].Twigs
					l[p[0]].Y = same(l[p[1]].Y)
				})
			}
			for _, j := range []int{0, n * n} {
				for _, p := range places {
					try("Z", func(tree *api.Tree, same func(uint64) uint64) {
						l := tree.Branches[i].Twigs[j].Leaves
						l[p[0]].Z = same(l[p[1]].Z)
					})
				}
				for _, k := range []int{0, n} {
					try("E", func(tree *api.Tree, same func(uint64) uint64) {
						l := &tree.Branches[i].Twigs[j].Leaves[k].Ends
						l[0].E = same(l[1].E)
					})
					try("E", func(tree *api.Tree, same func(uint64) uint64) {
						l := &tree.Branches[i].Twigs[j].Leaves[k].Ends
						l[1].E = same(l[0].E)
					})
				}
			}
		}
	})
}

// TestNotFullOfAnXOf0: also where it is 0 modulo Q alone.
func TestNotFullOfAnXOf0(t *testing.T) {
	forAll(func(g api.Params, n int) {
		for i := range n {
			for _, x := range samesOf(g, 0) {
				tree := fullyAsked(g, 7, n)
				tree.Branches[i].X = x
				growBy(g, n, tree).checkNot(t, fmt.Sprint("X ", x))
			}
		}
	})
}

// TestFullOfOtherChallenges: Y, Z and E may be 0, and the same in other places; X,
// Y, Z and E may be one number.
func TestFullOfOtherChallenges(t *testing.T) {
	forAll(func(g api.Params, n int) {
		tree := fullyAsked(g, 7, n)
		for i := range tree.Branches {
			b := &tree.Branches[i]
			b.X = uint64(i + 1)
			for j := range b.Twigs {
				b.Twigs[j].Y = uint64(j)
				for k := range b.Twigs[j].Leaves {
					l := &b.Twigs[j].Leaves[k]
					l.Z, l.Ends[0].E, l.Ends[1].E = uint64(k), 0, 1
				}
			}
		}
		growBy(g, n, tree).check(t, "small challenges")
		for _, x := range []uint64{g.Q - 1, 2*g.Q - 1, greatest / g.Q * g.Q, greatest} {
			changed := copyTree(tree)
			b := &changed.Branches[n-1]
			l := &b.Twigs[n*n].Leaves[n]
			b.Twigs[n*n].Y = lastUnlike(g, x, n*n)
			l.Z, l.Ends[0].E = lastUnlike(g, x, n), lastUnlike(g, x, 2)
			if lastUnlike(g, x, n)%g.Q != 0 {
				b.X = lastUnlike(g, x, n)
			}
			growBy(g, n, changed).check(t, fmt.Sprint("challenges of ", x))
		}
	})
}

// lastUnlike is x, or one less by as few as may be, so that it is modulo Q none of
// 0 up to below n.
func lastUnlike(g api.Params, x uint64, n int) uint64 {
	for x%g.Q < uint64(n) {
		x--
	}
	return x
}

// somePlaces of leaves: the first one of all, the last one, and one between.
func somePlaces(n int) [][3]int {
	return [][3]int{{0, 0, 0}, {n - 1, n * n, n}, {n / 2, n, n / 2}}
}

func leafAt(t api.Tree, p [3]int) *api.Leaf { return &t.Branches[p[0]].Twigs[p[1]].Leaves[p[2]] }

// checkChanged: of a copy of w's tree that is changed.
func (w grown) checkChanged(t *testing.T, name string, change func(tree api.Tree)) {
	t.Helper()
	w.tree = copyTree(w.tree)
	change(w.tree)
	w.checkNot(t, name)
}

func TestNotFullOfAChangedCommit(t *testing.T) {
	t.Parallel()
	forAll(func(g api.Params, n int) {
		w := grow(g, n)
		for _, p := range somePlaces(n) {
			size := 4*n + 2*api.Width
			for i := range size {
				for _, x := range []uint64{product(g, leafAt(w.tree, p).Commit[i], g.G), leafAt(w.tree, p).Commit[i] + g.P, 0} {
					w.checkChanged(t, fmt.Sprint("commit ", i, " is ", x), func(tree api.Tree) { leafAt(tree, p).Commit[i] = x })
				}
				if n == 3 && i%5 != 0 {
					continue
				}
				w.checkChanged(t, "commit fewer", func(tree api.Tree) {
					leafAt(tree, p).Commit = slices.Delete(leafAt(tree, p).Commit, i, i+1)
				})
				for _, x := range []uint64{1, g.G} {
					w.checkChanged(t, "commit more", func(tree api.Tree) {
						leafAt(tree, p).Commit = slices.Insert(leafAt(tree, p).Commit, i, x)
					})
				}
			}
			w.checkChanged(t, "commit and 1", func(tree api.Tree) { leafAt(tree, p).Commit = append(leafAt(tree, p).Commit, 1) })
			w.checkChanged(t, "no commit", func(tree api.Tree) { leafAt(tree, p).Commit = nil })
		}
	})
}

func TestNotFullOfChangedAnswers(t *testing.T) {
	t.Parallel()
	forAll(func(g api.Params, n int) {
		w := grow(g, n)
		for _, p := range somePlaces(n) {
			for end := range 2 {
				try := func(name string, change func(l []uint64) []uint64) {
					w.checkChanged(t, name, func(tree api.Tree) {
						e := &leafAt(tree, p).Ends[end]
						e.Answers = change(e.Answers)
					})
				}
				for i := range 7*n + api.Width {
					try(fmt.Sprint("answer ", i), func(l []uint64) []uint64 {
						l[i]++
						return l
					})
					if n == 3 && i%5 != 0 {
						continue
					}
					try("an answer fewer", func(l []uint64) []uint64 { return slices.Delete(l, i, i+1) })
					try("an answer more", func(l []uint64) []uint64 { return slices.Insert(l, i, 0) })
				}
				try("answers and 0", func(l []uint64) []uint64 { return append(l, 0) })
				try("no answers", func(l []uint64) []uint64 { return nil })
			}
			w.checkChanged(t, "the other end's answers", func(tree api.Tree) {
				e := &leafAt(tree, p).Ends
				e[0].Answers, e[1].Answers = e[1].Answers, e[0].Answers
			})
			w.checkChanged(t, "the same answers", func(tree api.Tree) {
				e := &leafAt(tree, p).Ends
				e[1].Answers = slices.Clone(e[0].Answers)
			})
		}
	})
}

// TestFullOfAnswersAboveQ: exponents are taken modulo Q.
func TestFullOfAnswersAboveQ(t *testing.T) {
	forAll(func(g api.Params, n int) {
		w := grow(g, n)
		for _, p := range somePlaces(n) {
			for end := range 2 {
				for i, x := range leafAt(w.tree, p).Ends[end].Answers {
					leafAt(w.tree, p).Ends[end].Answers[i] = samesOf(g, x)[1+i%3]
				}
			}
		}
		w.check(t, "answers above Q")
		checkGiven(t, "answers above Q", w.g, w.y, w.in, w.out, w.tree)
	})
}

// TestNotFullOfAnotherChallenge: of one that was answered to another one.
func TestNotFullOfAnotherChallenge(t *testing.T) {
	forAll(func(g api.Params, n int) {
		w := grow(g, n)
		for _, p := range somePlaces(n) {
			other := func(x uint64, l ...uint64) uint64 {
				for slices.Contains(l, x%g.Q) || x%g.Q == 0 {
					x++
				}
				return x
			}
			var xs, ys, zs []uint64
			for _, b := range w.tree.Branches {
				xs = append(xs, b.X%g.Q)
			}
			for _, y := range w.tree.Branches[p[0]].Twigs {
				ys = append(ys, y.Y%g.Q)
			}
			for _, l := range w.tree.Branches[p[0]].Twigs[p[1]].Leaves {
				zs = append(zs, l.Z%g.Q)
			}
			w.checkChanged(t, "X", func(tree api.Tree) { b := &tree.Branches[p[0]]; b.X = other(b.X, xs...) })
			if uint64(n*n+2) < g.Q { // else there is no other Y
				w.checkChanged(t, "Y", func(tree api.Tree) { l := &tree.Branches[p[0]].Twigs[p[1]]; l.Y = other(l.Y, ys...) })
			}
			w.checkChanged(t, "Z", func(tree api.Tree) { l := leafAt(tree, p); l.Z = other(l.Z, zs...) })
			for end := range 2 {
				w.checkChanged(t, "E", func(tree api.Tree) {
					e := &leafAt(tree, p).Ends
					e[end].E = other(e[end].E, e[0].E%g.Q, e[1].E%g.Q)
				})
			}
		}
	})
}

// listsAt are A of the tree, and B and P of the leaf at p.
func listsAt(t *api.Tree, p [3]int) []*[]uint64 {
	return []*[]uint64{&t.A, &t.Branches[p[0]].B, &leafAt(*t, p).P}
}

// TestNotFullWithoutAClaim: of a number that is no element, of another one, of lists
// of other sizes, of P of 0 that isn't D of 0.
func TestNotFullWithoutAClaim(t *testing.T) {
	t.Parallel()
	forAll(func(g api.Params, n int) {
		w := grow(g, n)
		for _, p := range somePlaces(n) {
			for list, name := range []string{"A", "B", "P"} {
				try := func(what string, change func(l []uint64) []uint64) {
					other := w
					other.tree = copyTree(w.tree)
					l := listsAt(&other.tree, p)[list]
					*l = change(*l)
					other.checkNot(t, fmt.Sprint(name, ": ", what))
				}
				for i := range n {
					x := (*listsAt(&w.tree, p)[list])[i]
					for _, other := range append(strangers(g), x+g.P, g.P-x, product(g, x, g.G), product(g, x, g.H)) {
						try(fmt.Sprint(other, " at ", i), func(l []uint64) []uint64 {
							l[i] = other
							return l
						})
					}
					try("fewer", func(l []uint64) []uint64 { return slices.Delete(l, i, i+1) })
					try("more", func(l []uint64) []uint64 { return slices.Insert(l, i, x) })
				}
				try("and 1", func(l []uint64) []uint64 { return append(l, 1) })
				try("none", func(l []uint64) []uint64 { return nil })
			}
		}
	})
}

// TestNotFullWherePOf0IsNotDOf0: where P begins with another element, by which all is
// claimed, and answered as claimed, as if that were D of 0.
func TestNotFullWherePOf0IsNotDOf0(t *testing.T) {
	for _, g := range groups() {
		const n = 2
		m := mixerOf(g, someBoxes(g, n), inTurn(n))
		out, tree := m.talks(fullyAsked(g, 7, n))
		p := [3]int{1, 3, 1}
		branch, leaf := tree.Branches[p[0]], leafAt(tree, p)
		talk := api.Talk{A: tree.A, X: branch.X, B: branch.B, Y: branch.Twigs[p[1]].Y, Z: leaf.Z, P: leaf.P}
		c, _ := shuffle.Claim(g, m.y, m.in, out, talk)
		e := leaf.Ends
		w, _ := linear.Extract(g, e[0].E, e[0].Answers, e[1].E, e[1].Answers)
		// The base of d of 1 in the row of P of 1, and t', which goes up by that d: the
		// element is H times what it was.
		first, second := product(g, leaf.P[0], g.H), product(g, leaf.P[1], power(g, g.H, w[4*n+1]))
		c.Bases[3*n][4*n+1], c.Targets[3*n] = first, second
		c.Targets[3*n+1] = product(g, c.Targets[3*n+1], power(g, g.H, w[4*n+1]))
		w[7*n-1] = modn.Add(w[7*n-1], w[4*n+1], g.Q)
		d := drawn(5, len(w))
		leaf.P = []uint64{first, second}
		leaf.Commit, _ = linear.Image(g, c, d)
		for i := range leaf.Ends {
			leaf.Ends[i].Answers, _ = linear.Answer(g, w, d, e[i].E)
			if !linear.Accepts(g, c, leaf.Commit, e[i].E, leaf.Ends[i].Answers) {
				t.Fatalf("P %d: what is claimed isn't accepted", g.P)
			}
		}
		checkNotFull(t, "P of 0", g, m.y, m.in, out, tree)
	}
}

func TestNotFullOfAnotherKey(t *testing.T) {
	forAll(func(g api.Params, n int) {
		w := grow(g, n)
		for _, y := range append(strangers(g), 1, product(g, w.y, g.G), product(g, w.y, g.H), w.y+g.P, g.P-w.y) {
			if y != w.y {
				checkNotFull(t, fmt.Sprint("key ", y), g, y, w.in, w.out, w.tree)
			}
		}
	})
}

// changedBoxes are boxes with one number changed: each in turn.
func changedBoxes(g api.Params, boxes []api.Box, change func(x uint64) uint64) [][]api.Box {
	var l [][]api.Box
	for i := range boxes {
		for w := range api.Width {
			ofU, ofV := slices.Clone(boxes), slices.Clone(boxes)
			ofU[i][w].U, ofV[i][w].V = change(ofU[i][w].U), change(ofV[i][w].V)
			l = append(l, ofU, ofV)
		}
	}
	return l
}

func TestNotFullOfAnotherBatch(t *testing.T) {
	forAll(func(g api.Params, n int) {
		w := grow(g, n)
		for name, change := range map[string]func(x uint64) uint64{
			"times G": func(x uint64) uint64 { return product(g, x, g.G) },
			"and P":   func(x uint64) uint64 { return x + g.P },
			"from P":  func(x uint64) uint64 { return g.P - x },
		} {
			for _, in := range changedBoxes(g, w.in, change) {
				checkNotFull(t, "in "+name, g, w.y, in, w.out, w.tree)
			}
			for _, out := range changedBoxes(g, w.out, change) {
				checkNotFull(t, "out "+name, g, w.y, w.in, out, w.tree)
			}
		}
		for _, order := range allOrders(n) {
			in, out := reordered(w.in, order), reordered(w.out, order)
			if !slices.Equal(in, w.in) {
				checkNotFull(t, "in in another order", g, w.y, in, w.out, w.tree)
			}
			if !slices.Equal(out, w.out) {
				checkNotFull(t, "out in another order", g, w.y, w.in, out, w.tree)
			}
		}
		checkNotFull(t, "in and out in each other's place", g, w.y, w.out, w.in, w.tree)
	})
}

func reordered(boxes []api.Box, order []int) []api.Box {
	var l []api.Box
	for _, place := range order {
		l = append(l, boxes[place])
	}
	return l
}

// TestNotFullOfNoBoxes: though a tree of no branches has as many as there are boxes.
func TestNotFullOfNoBoxes(t *testing.T) {
	for _, g := range groups() {
		for _, tree := range []api.Tree{{}, {A: []uint64{}, Branches: []api.Branch{}}, grow(g, 1).tree, grow(g, 2).tree} {
			checkNotFull(t, "nil", g, g.G, nil, nil, tree)
			checkNotFull(t, "none", g, g.G, []api.Box{}, []api.Box{}, tree)
		}
	}
}

// TestNotFullOfFourBoxes: though there are as many branches, twigs and leaves as of
// fewer boxes, and all talks are accepted.
func TestNotFullOfFourBoxes(t *testing.T) {
	for _, g := range []api.Params{small(), {P: 47, Q: 23, G: 4, H: 9}} {
		w := grow(g, 4)
		p := [3]int{3, 16, 4}
		for _, leaf := range []*api.Leaf{leafAt(w.tree, p), leafAt(w.tree, [3]int{})} {
			if len(leaf.Commit) != 22 || len(leaf.Ends[1].Answers) != 31 {
				t.Fatalf("P %d: a leaf is %v", g.P, leaf)
			}
		}
		w.checkNot(t, "four")
		checkNotFull(t, "three of four", g, w.y, w.in[:3], w.out[:3], w.tree)
	}
}

func TestNotFullOfUnlikeLengths(t *testing.T) {
	for _, g := range groups() {
		for n := 1; n <= 2; n++ {
			w := grow(g, n)
			for m := range 5 {
				if m == n {
					continue
				}
				boxes := slices.Concat(w.in, someBoxes(g, 5))[:m]
				checkNotFull(t, fmt.Sprint(m, " in"), g, w.y, boxes, w.out, w.tree)
				boxes = slices.Concat(w.out, someBoxes(g, 5))[:m]
				checkNotFull(t, fmt.Sprint(m, " out"), g, w.y, w.in, boxes, w.tree)
			}
		}
	}
}

// TestNotFullOfABoxThatWasReplaced: by one who mixed other boxes than came in.
func TestNotFullOfABoxThatWasReplaced(t *testing.T) {
	forAll(func(g api.Params, n int) {
		m := mixerOf(g, someBoxes(g, n), allOrders(n)[0])
		in := slices.Clone(m.in)
		m.in[n-1] = boxOf(elements(g, 900, 6))
		out, tree := m.talks(fullyAsked(g, 7, n))
		checkNotFull(t, "replaced", g, m.y, in, out, tree)
	})
}

// TestNotFullOfOneTalkElsewhere: leaves, twigs and branches are of the beginning with
// which they were said.
func TestNotFullOfOneTalkElsewhere(t *testing.T) {
	forAll(func(g api.Params, n int) {
		w := grow(g, n)
		m := mixerOf(g, w.in, allOrders(n)[0])
		m.r = drawn(52, n)
		_, other := m.talks(fullyAsked(g, 7, n))
		if other.A[0] == w.tree.A[0] {
			t.Fatalf("P %d: A is the same", g.P)
		}
		for _, p := range somePlaces(n) {
			w.checkChanged(t, "another A", func(tree api.Tree) { tree.Branches[p[0]] = other.Branches[p[0]] })
			w.checkChanged(t, "another B", func(tree api.Tree) {
				tree.Branches[p[0]].Twigs[p[1]] = other.Branches[p[0]].Twigs[p[1]]
			})
			w.checkChanged(t, "another leaf", func(tree api.Tree) { *leafAt(tree, p) = *leafAt(other, p) })
		}
	})
}
