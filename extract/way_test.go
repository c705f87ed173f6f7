package extract

import (
	"fmt"
	"slices"
	"testing"

	"spandrel/api"
)

// checkWay checks that all talks of m give its order and its draws away.
func checkWay(t *testing.T, name string, m mixer, asked api.Tree) {
	t.Helper()
	out, tree := m.talks(asked)
	f := checkGiven(t, fmt.Sprint(name, " by ", m.order), m.g, m.y, m.in, out, tree)
	if f.Kind != 1 || !slices.Equal(f.Perm, m.order) || len(f.Rho) != len(m.rho) {
		t.Errorf("P %d, %s: Extract of one who mixed by %d is %v", m.g.P, name, m.order, f)
		return
	}
	for i, row := range f.Rho {
		for w, x := range row {
			if x != m.rho[i][w]%m.g.Q {
				t.Errorf("P %d, %s: Rho of one who mixed by %d is %d, want %d", m.g.P, name, m.rho, f.Rho, m.rho)
			}
		}
	}
}

// TestWays: of batches of unlike boxes, by all orders.
func TestWays(t *testing.T) {
	t.Parallel()
	for _, g := range groups() {
		for n := 1; n <= mostOf(g); n++ {
			for i, order := range allOrders(n) {
				if isVast(g) && n == 3 && i%2 == 0 {
					continue // these take long
				}
				checkWay(t, "unlike boxes", mixerOf(g, someBoxes(g, n), order), fullyAsked(g, uint64(20*i), n))
			}
		}
	}
}

// TestWaysOfTheSameBoxes: all of them, or two of three: it is a way, whichever one.
func TestWaysOfTheSameBoxes(t *testing.T) {
	t.Parallel()
	for _, g := range groups() {
		for n := 2; n <= mostOf(g); n++ {
			if isVast(g) && n == 3 {
				continue
			}
			some := someBoxes(g, n)
			some[n-1] = some[0]
			ones := boxOf([]uint64{1, 1, 1, 1, 1, 1})
			for _, in := range [][]api.Box{slices.Repeat(some[:1], n), some, slices.Repeat([]api.Box{ones}, n)} {
				for _, order := range allOrders(n) {
					m := mixerOf(g, in, order)
					out, tree := m.talks(fullyAsked(g, 3, n))
					if f := checkGiven(t, "the same boxes", g, m.y, in, out, tree); f.Kind != 1 {
						t.Errorf("P %d: Extract of one who mixed is %v", g.P, f)
					}
				}
			}
		}
	}
}

// TestWaysOfDraws: of 0, so that what comes out is what came in, and of numbers about
// Q and above.
func TestWaysOfDraws(t *testing.T) {
	t.Parallel()
	forAll(func(g api.Params, n int) {
		for _, x := range []uint64{0, 1, g.Q - 1, g.Q, g.Q + 1, greatest} {
			m := mixerOf(g, someBoxes(g, n), allOrders(n)[n/2])
			for i := range n {
				m.rho[i], m.r[i] = [api.Width]uint64{x, x, x}, x
			}
			checkWay(t, fmt.Sprint("draws of ", x), m, fullyAsked(g, 9, n))
			m.rho[n-1], m.r[n-1] = [api.Width]uint64{3, x, 5}, 7
			checkWay(t, fmt.Sprint("a draw of ", x), m, fullyAsked(g, 9, n))
		}
	})
}

// TestWaysOfKeys: also of the key 1, by which V doesn't change.
func TestWaysOfKeys(t *testing.T) {
	t.Parallel()
	forAll(func(g api.Params, n int) {
		for _, y := range []uint64{1, g.G, g.H} {
			m := mixerOf(g, someBoxes(g, n), allOrders(n)[n-1])
			m.y = y
			checkWay(t, fmt.Sprint("key ", y), m, fullyAsked(g, 9, n))
		}
	})
}

// TestWaysOfAllX: of two boxes by all X's, of three by those of which two make Q
// with each other, so that their squares are the same.
func TestWaysOfAllX(t *testing.T) {
	t.Parallel()
	for _, g := range []api.Params{eleven(), twentyThree()} {
		for x := uint64(1); x < g.Q; x++ {
			for z := uint64(1); z < g.Q; z++ {
				if x == z {
					continue
				}
				for _, order := range allOrders(2) {
					asked := fullyAsked(g, x, 2)
					asked.Branches[0].X, asked.Branches[1].X = x, z
					checkWay(t, fmt.Sprint("X ", x, " ", z), mixerOf(g, someBoxes(g, 2), order), asked)
				}
			}
		}
	}
	g := twentyThree()
	for i, order := range allOrders(3) {
		for _, x := range allOrders(3) {
			l := []uint64{uint64(i + 1), g.Q - uint64(i+1), uint64(i+2) % 9}
			asked := fullyAsked(g, 4, 3)
			for k := range l {
				asked.Branches[k].X = l[x[k]]
			}
			if l[2] != l[1] && l[2] != l[0] && l[2] != 0 {
				checkWay(t, fmt.Sprint("X ", l, x), mixerOf(g, someBoxes(g, 3), order), asked)
			}
		}
	}
}

// TestWaysByHand: of one box, in the group of 11, and by numbers worked out by hand:
// the box (4 5) (9 3) (5 1), sealed again for the key 5 by 1, 2 and 4.
func TestWaysByHand(t *testing.T) {
	g := eleven()
	in := []api.Box{{{U: 4, V: 5}, {U: 9, V: 3}, {U: 5, V: 1}}}
	m := mixer{g: g, y: 5, in: in, order: []int{0}, rho: [][api.Width]uint64{{1, 2, 4}}, r: []uint64{3}}
	out, tree := m.talks(fullyAsked(g, 1, 1))
	// 4 4 and 5 5; 9 5 and 3 3; 5 3 and 1 9, as G to the 4 is 3, and 5 to the 4 is 9.
	if want := []api.Box{{{U: 5, V: 3}, {U: 1, V: 9}, {U: 4, V: 9}}}; !slices.Equal(out, want) {
		t.Fatalf("%d is mixed, want %d", out, want)
	}
	f := Extract(g, 5, in, out, tree)
	if f.Kind != 1 || !slices.Equal(f.Perm, []int{0}) || !slices.Equal(f.Rho, m.rho) || f.Alpha != 0 || f.Beta != 0 {
		t.Errorf("Extract is %v", f)
	}
}
