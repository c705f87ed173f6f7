package extract

import (
	"fmt"
	"reflect"
	"slices"
	"testing"

	"spandrel/api"
)

// brokenGroups aren't right, in ways that may break a call.
func brokenGroups() []api.Params {
	l := []api.Params{
		{}, {P: greatest, Q: greatest, G: greatest, H: greatest}, {P: 15, Q: 7, G: 3, H: 5}, {P: 12, Q: 6, G: 6, H: 4},
		{P: 15, Q: 4, G: 2, H: 8}, {P: 11, Q: 10, G: 2, H: 3}, {P: 11, Q: 5, G: 0, H: 9}, {P: 11, Q: 5, G: 4, H: 0},
		{P: 11, Q: 5, G: 11, H: 22}, {P: 11, Q: 5, G: 4, H: 4}, {P: 11, Q: 5, G: 1, H: 1}, {P: 31, Q: 15, G: 9, H: 19},
	}
	edges := []uint64{0, 1, 2, 3, 4, 11, 1<<62 - 1, api.MostMod, api.MostMod + 1, 1 << 63, greatest - 1, greatest}
	for _, p := range edges {
		for _, q := range edges {
			l = append(l,
				api.Params{P: p, Q: q, G: 4, H: 9, Rows: eleven().Rows},
				api.Params{P: p, Q: q, G: greatest, H: 0, Rows: []api.Row{{}, row(greatest, greatest, greatest)}},
			)
		}
	}
	return l
}

// callBoth makes both calls, and answers whether neither panics.
func callBoth(w grown) (ok bool) {
	defer func() { ok = recover() == nil }()
	Full(w.g, w.y, w.in, w.out, w.tree)
	Extract(w.g, w.y, w.in, w.out, w.tree)
	return
}

// treeOf is of as many branches, twigs and leaves as are told, with lists of size
// numbers, all of the number x but unlike challenges.
func treeOf(x uint64, branches, twigs, leaves, size, commits, answers int) api.Tree {
	t := api.Tree{A: slices.Repeat([]uint64{x}, size)}
	for i := range branches {
		b := api.Branch{X: uint64(i + 1), B: slices.Repeat([]uint64{x}, size)}
		for j := range twigs {
			w := api.Twig{Y: uint64(j)}
			for k := range leaves {
				leaf := api.Leaf{Z: uint64(k), P: slices.Repeat([]uint64{x}, size), Commit: slices.Repeat([]uint64{x}, commits)}
				for e := range leaf.Ends {
					leaf.Ends[e] = api.End{E: uint64(e), Answers: slices.Repeat([]uint64{x}, answers)}
				}
				w.Leaves = append(w.Leaves, leaf)
			}
			b.Twigs = append(b.Twigs, w)
		}
		t.Branches = append(t.Branches, b)
	}
	return t
}

func boxesOf(x uint64, n int) []api.Box {
	return slices.Repeat([]api.Box{boxOf([]uint64{x, x, x, x, x, x})}, n)
}

// TestEveryCallEnds: of groups that aren't right, and of numbers that are no elements
// of a right one, with as many of all as a full tree has.
func TestEveryCallEnds(t *testing.T) {
	t.Parallel()
	for _, g := range slices.Concat(brokenGroups(), groups()) {
		for _, x := range []uint64{0, 1, 2, 4, g.P - 1, g.P, g.Q, g.Q + 1, 1 << 62, greatest} {
			for n := range 5 {
				tree := treeOf(x, n, n*n+1, n+1, n, 4*n+6, 7*n+3)
				if !callBoth(grown{g, x, boxesOf(x, n), boxesOf(x, n), tree}) {
					t.Fatalf("P %d, Q %d: a call of %d boxes of %d panics", g.P, g.Q, n, x)
				}
			}
		}
	}
}

// TestEveryCallEndsOfFullTrees: those of a right group, in groups that aren't.
func TestEveryCallEndsOfFullTrees(t *testing.T) {
	t.Parallel()
	for _, right := range groups() {
		for n := 1; n <= 2; n++ {
			w := grow(right, n)
			for _, g := range append(brokenGroups(), ofOtherQ(right)...) {
				w.g = g
				if !callBoth(w) {
					t.Fatalf("P %d, Q %d: a call of a tree of %d boxes in a group of %d panics", g.P, g.Q, n, right.P)
				}
			}
		}
	}
}

// ofOtherQ are like g, but of Q.
func ofOtherQ(g api.Params) []api.Params {
	var l []api.Params
	for _, q := range []uint64{0, 1, 2, g.Q - 1, g.Q + 1, 2 * g.Q, 3 * g.Q, 1 << 62, greatest} {
		other := g
		other.Q = q
		l = append(l, other)
	}
	return l
}

// TestBrokenGroupsTellNoLies: what is told of one who mixed, or of a liar, in a group
// of which Q is no prime, is a way or a relation, or nothing.
func TestBrokenGroupsTellNoLies(t *testing.T) {
	told, silent := 0, 0
	check := func(name string, w grown) {
		f := Extract(w.g, w.y, w.in, w.out, w.tree)
		switch {
		case !Full(w.g, w.y, w.in, w.out, w.tree):
			t.Errorf("P %d, %s: the tree isn't full", w.g.P, name)
		case isNothing(f):
			silent++
		case isWay(w.g, w.y, w.in, w.out, f) || isRelation(w.g, f):
			told++
		default:
			t.Errorf("P %d, %s: Extract is %v", w.g.P, name, f)
		}
	}
	g := api.Params{P: 31, Q: 15, G: 9, H: 19}
	for x := uint64(1); x < 15; x++ {
		for e := uint64(1); e < 15; e++ {
			asked := asked(g, 7, 1, 2, 2)
			asked.Branches[0].X = x
			leafAt(asked, [3]int{0, 1, 1}).Ends = [2]api.End{{E: 0}, {E: e}}
			check(fmt.Sprint("X ", x, ", E ", e), growBy(g, 1, asked))
		}
	}
	// Nonsense is as asked by both Y's here, as 3 times 5 is 0.
	asked := asked(g, 7, 1, 2, 2)
	asked.Branches[0].Twigs[0].Y, asked.Branches[0].Twigs[1].Y = 1, 4
	l := liarOf(g, []int{0}, []int{0}, asked)
	check("nonsense", l.tree(func(p [3]int) said {
		b := []int{l.mod(l.xTo(p, 1) - 5)}
		return said{[]int{6}, b, l.factors(p, []int{6}, b)}
	}))
	if told == 0 || silent == 0 {
		t.Errorf("%d are told, and %d are not", told, silent)
	}
}

// TestEveryCallEndsOfAnyCounts: of trees, and of lists, that are too few or too many.
func TestEveryCallEndsOfAnyCounts(t *testing.T) {
	t.Parallel()
	for _, g := range []api.Params{eleven(), twentyThree(), {}, {P: 15, Q: 4, G: 2, H: 8}} {
		for n := range 5 {
			for _, m := range []int{0, 1, n, n + 1, n*n + 1} {
				for _, size := range []int{0, n, n + 1} {
					for _, tree := range []api.Tree{
						treeOf(1, m, n*n+1, n+1, size, 4*n+6, 7*n+3), treeOf(1, n, m, n+1, size, 4*n+6, 7*n+3),
						treeOf(1, n, n*n+1, m, size, 4*n+6, 7*n+3), treeOf(1, n, n*n+1, n+1, size, m, 7*n+3),
						treeOf(1, n, n*n+1, n+1, size, 4*n+6, m), treeOf(1, n, n*n+1, n+1, n, 0, 0),
					} {
						for _, in := range []int{0, n, m} {
							if !callBoth(grown{g, 1, boxesOf(1, in), boxesOf(1, n), tree}) {
								t.Fatalf("P %d: a call of %d and %d boxes, of %v, panics", g.P, in, n, tree)
							}
						}
					}
				}
			}
		}
	}
}

// TestNothingAtAll: every argument is its zero value.
func TestNothingAtAll(t *testing.T) {
	checkNotFull(t, "nothing", api.Params{}, 0, nil, nil, api.Tree{})
	for _, g := range groups() {
		checkNotFull(t, "nothing", g, 0, nil, nil, api.Tree{})
		checkNotFull(t, "a box", g, 0, make([]api.Box, 1), make([]api.Box, 1), api.Tree{})
		tree := api.Tree{Branches: []api.Branch{{X: 1, Twigs: []api.Twig{{}, {Y: 1}}}}}
		checkNotFull(t, "twigs", g, 1, boxesOf(1, 1), boxesOf(1, 1), tree)
		for j := range tree.Branches[0].Twigs {
			tree.Branches[0].Twigs[j].Leaves = []api.Leaf{{Ends: [2]api.End{{E: 1}, {}}}, {Z: 1, Ends: [2]api.End{{E: 1}, {}}}}
		}
		checkNotFull(t, "leaves", g, 1, boxesOf(1, 1), boxesOf(1, 1), tree)
	}
}

// TestLongLists: what is far too long isn't full, and is answered at once.
func TestLongLists(t *testing.T) {
	g := largest()
	w := grow(g, 1)
	n := 1 << 16
	long := slices.Repeat([]uint64{g.G}, n)
	checkNotFull(t, "long in", g, w.y, slices.Repeat(w.in, n), w.out, w.tree)
	checkNotFull(t, "long out", g, w.y, w.in, slices.Repeat(w.out, n), w.tree)
	w.checkChanged(t, "long commit", func(tree api.Tree) { leafAt(tree, [3]int{}).Commit = long })
	w.checkChanged(t, "long answers", func(tree api.Tree) { leafAt(tree, [3]int{}).Ends[0].Answers = long })
	w.checkChanged(t, "long twigs", func(tree api.Tree) {
		tree.Branches[0].Twigs = slices.Repeat(tree.Branches[0].Twigs, n)
	})
	w.checkChanged(t, "long leaves", func(tree api.Tree) {
		l := &tree.Branches[0].Twigs[0].Leaves
		*l = slices.Repeat(*l, n)
	})
	for list := range 3 {
		other := w
		other.tree = copyTree(w.tree)
		*listsAt(&other.tree, [3]int{})[list] = long
		other.checkNot(t, "a long list")
	}
	w.tree.Branches = slices.Repeat(w.tree.Branches, n)
	w.checkNot(t, "long branches")
}

// someTold are trees that tell a way, a relation, and nothing.
func someTold() []grown {
	g := twentyThree()
	l := liarOf(g, someNotes(2), otherNotes(2), fullyAsked(g, 11, 2))
	lie := l.tree(func(p [3]int) said {
		return said{nonsense(2), l.suiting(p), l.otherFactors(p)}
	})
	other := grow(g, 2)
	other.y = g.G
	return []grown{grow(g, 2), lie, other, grow(g, 1)}
}

// withRoom gives each list of numbers room behind it, which is not to be written to.
func withRoom(t api.Tree) api.Tree {
	t = copyTree(t)
	roomy := func(l *[]uint64) {
		n := len(*l)
		*l = append(*l, 4, 9)[:n]
	}
	roomy(&t.A)
	for i := range t.Branches {
		roomy(&t.Branches[i].B)
		for j := range t.Branches[i].Twigs {
			for k := range t.Branches[i].Twigs[j].Leaves {
				leaf := leafAt(t, [3]int{i, j, k})
				roomy(&leaf.P)
				roomy(&leaf.Commit)
				roomy(&leaf.Ends[0].Answers)
				roomy(&leaf.Ends[1].Answers)
			}
		}
	}
	return t
}

// roomOf answers what lies behind the lists of numbers.
func roomOf(t api.Tree) []uint64 {
	var all []uint64
	behind := func(l []uint64) { all = append(all, l[:len(l)+2][len(l):]...) }
	behind(t.A)
	for i, branch := range t.Branches {
		behind(branch.B)
		for j, twig := range branch.Twigs {
			for k := range twig.Leaves {
				leaf := leafAt(t, [3]int{i, j, k})
				behind(leaf.P)
				behind(leaf.Commit)
				behind(leaf.Ends[0].Answers)
				behind(leaf.Ends[1].Answers)
			}
		}
	}
	return all
}

func TestWhatIsHandedInStays(t *testing.T) {
	for _, w := range someTold() {
		tree, in, out := withRoom(w.tree), slices.Clone(w.in), slices.Clone(w.out)
		room := roomOf(tree)
		Full(w.g, w.y, in, out, tree)
		Extract(w.g, w.y, in, out, tree)
		if !reflect.DeepEqual(tree, w.tree) || !slices.Equal(in, w.in) || !slices.Equal(out, w.out) || !slices.Equal(roomOf(tree), room) {
			t.Errorf("%d boxes, or the tree of them, were changed", len(in))
		}
		if !reflect.DeepEqual(w.g, twentyThree()) {
			t.Errorf("the group has become %v", w.g)
		}
	}
}

// TestWhatIsAnsweredIsNewMemory: who writes to it changes nothing that was handed in,
// and nothing that is answered next.
func TestWhatIsAnsweredIsNewMemory(t *testing.T) {
	for _, w := range someTold() {
		kept := copyTree(w.tree)
		want := Extract(w.g, w.y, w.in, w.out, w.tree)
		f := Extract(w.g, w.y, w.in, w.out, w.tree)
		for i := range f.Perm[:cap(f.Perm)] {
			f.Perm[:cap(f.Perm)][i] = 77
		}
		clear(f.Rho[:cap(f.Rho)])
		if !reflect.DeepEqual(w.tree, kept) {
			t.Errorf("writing to %v changed the tree", f)
		}
		if next := Extract(w.g, w.y, w.in, w.out, w.tree); !reflect.DeepEqual(next, want) {
			t.Errorf("%v has become %v", want, next)
		}
	}
}

// TestNothingIsKept: what is answered stays, whatever becomes of what was handed in.
func TestNothingIsKept(t *testing.T) {
	for _, w := range someTold() {
		want := Extract(w.g, w.y, w.in, w.out, w.tree)
		tree, in, out := copyTree(w.tree), slices.Clone(w.in), slices.Clone(w.out)
		f := Extract(w.g, w.y, in, out, tree)
		clear(in)
		clear(out)
		clear(tree.A)
		for i, branch := range tree.Branches {
			clear(branch.B)
			for j, twig := range branch.Twigs {
				for k := range twig.Leaves {
					leaf := leafAt(tree, [3]int{i, j, k})
					clear(leaf.P)
					clear(leaf.Ends[0].Answers)
					clear(leaf.Ends[1].Answers)
				}
			}
		}
		if !reflect.DeepEqual(f, want) {
			t.Errorf("%v has become %v", want, f)
		}
	}
}

// TestOneAnswer: calls ahead change nothing.
func TestOneAnswer(t *testing.T) {
	all := someTold()
	var want []api.Found
	for _, w := range all {
		want = append(want, Extract(w.g, w.y, w.in, w.out, w.tree))
	}
	for range 3 {
		for i, w := range slices.Backward(all) {
			if f := Extract(w.g, w.y, w.in, w.out, w.tree); !reflect.DeepEqual(f, want[i]) {
				t.Errorf("%v has become %v", want[i], f)
			}
		}
	}
	if want[0].Kind != 1 || want[1].Kind != 2 || want[2].Kind != 0 || want[3].Kind != 1 {
		t.Errorf("told is %v", want)
	}
}
