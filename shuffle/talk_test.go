package shuffle

import (
	"slices"
	"testing"

	"spandrel/api"
)

// handTalk is worked out by hand in the group of eleven, whose H is G to the 3: of
// two who change places.
func handTalk() (order []int, t api.Talk, d api.Draws) {
	d = api.Draws{Rho: [][api.Width]uint64{{1, 2, 3}, {4, 0, 6}}, R: []uint64{1, 2}, S: []uint64{3, 4}, T: []uint64{9, 3}}
	t = api.Talk{A: []uint64{1, 5}, X: 2, B: []uint64{9, 3}, Y: 3, Z: 1, P: []uint64{5, 5}}
	return []int{1, 0}, t, d
}

// handExponents: of a, r, b, s, d and u there are two each.
func handExponents() []uint64 {
	return []uint64{2, 1, 1, 2, 4, 2, 3, 4, 4, 4, 1, 0, 3, 2, 3, 2, 1}
}

func TestListsByHand(t *testing.T) {
	order, talk, d := handTalk()
	g := eleven()
	for _, c := range []struct {
		name      string
		got, want []uint64
	}{
		{"First", First(g, order, d.R), talk.A},
		{"Second", Second(g, order, talk.X, d.S), talk.B},
		{"Third", Third(g, order, talk, d), talk.P},
		{"Exponents", Exponents(g, order, talk, d), handExponents()},
	} {
		if !slices.Equal(c.got, c.want) {
			t.Errorf("%s is %d, want %d", c.name, c.got, c.want)
		}
	}
}

// TestExponentsOfAnotherProgram holds them against numbers that were worked out by
// a program in another language, out of the chapter's words.
func TestExponentsOfAnotherProgram(t *testing.T) {
	g := small()
	one := api.Draws{Rho: [][api.Width]uint64{{5, 6, 7}}, R: []uint64{2}, S: []uint64{3}, T: []uint64{4}}
	two := api.Draws{Rho: [][api.Width]uint64{{5, 6, 7}, {8, 9, 10}}, R: []uint64{2, 11}, S: []uint64{3, 12}, T: []uint64{4, 13}}
	for _, c := range []struct {
		order []int
		talk  api.Talk
		d     api.Draws
		want  []uint64
	}{
		{[]int{0}, api.Talk{X: 766, Y: 666, Z: 862}, one, []uint64{1, 2, 766, 3, 570, 322, 322, 222, 469, 716}},
		{[]int{1, 0}, api.Talk{X: 843, Y: 485, Z: 145}, two, []uint64{2, 1, 2, 11, 536, 843, 3, 12, 348, 170, 973, 282, 13, 304, 706, 340, 987}},
	} {
		if got := Exponents(g, c.order, c.talk, c.d); !slices.Equal(got, c.want) {
			t.Errorf("Exponents by %d is %d, want %d", c.order, got, c.want)
		}
	}
}

// talkOf is of one who mixed by the order and d, and was asked x, y and z.
func talkOf(g api.Params, order []int, d api.Draws, x, y, z uint64) api.Talk {
	t := api.Talk{X: x, Y: y, Z: z, A: wantFirst(g, order, d.R), B: wantSecond(g, order, x, d.S)}
	t.P = wantThird(g, order, t, d.T)
	return t
}

// checkLists holds all lists of one who mixed against the chapter's words.
func checkLists(t *testing.T, g api.Params, order []int, d api.Draws, x, y, z uint64) {
	t.Helper()
	talk := talkOf(g, order, d, x, y, z)
	for _, c := range []struct {
		name      string
		got, want []uint64
	}{
		{"First", First(g, order, d.R), talk.A},
		{"Second", Second(g, order, x, d.S), talk.B},
		{"Third", Third(g, order, talk, d), talk.P},
		{"Exponents", Exponents(g, order, talk, d), wantExponents(g, order, talk, d)},
	} {
		if !slices.Equal(c.got, c.want) {
			t.Errorf("P %d, by %d, %d: %s of %d, %d, %d is %d, want %d", g.P, order, d, c.name, x, y, z, c.got, c.want)
		}
	}
}

func TestLists(t *testing.T) {
	for _, g := range groups() {
		for n := 1; n <= api.MaxBatch; n++ {
			for _, order := range ordersOf(n) {
				l := drawn(uint64(n), 3)
				checkLists(t, g, order, someDraws(n), l[0], l[1], l[2])
			}
		}
	}
}

func TestListsByAllOrders(t *testing.T) {
	g := small()
	for n := 1; n <= 5; n++ {
		for i, order := range allOrders(n) {
			l := drawn(uint64(i), 3)
			checkLists(t, g, order, someDraws(n), l[0], l[1], l[2])
		}
	}
}

// TestListsOfNumbersAboutQ: of challenges and draws of 0, of Q and above, and of the
// greatest number.
func TestListsOfNumbersAboutQ(t *testing.T) {
	for _, g := range groups() {
		for _, n := range []int{1, 3, api.MaxBatch} {
			order := someOrder(n)
			for i, x := range numbersAbout(g) {
				checkLists(t, g, order, drawsOf(n, x), x, x, x)
				checkLists(t, g, order, someDraws(n), x, 7, 8)
				checkLists(t, g, order, someDraws(n), 6, x, 8)
				checkLists(t, g, order, someDraws(n), 6, 7, x)
				d := someDraws(n)
				d.R[i%n], d.S[(i+1)%n], d.T[(i+2)%n], d.Rho[i%n][i%3] = x, x, x, x
				checkLists(t, g, order, d, 6, 7, 8)
			}
		}
	}
}

// TestListsAreTakenModuloQ: what is told by numbers of Q and above is the same as by
// those modulo Q, and no exponent is above.
func TestListsAreTakenModuloQ(t *testing.T) {
	for _, g := range groups() {
		for _, x := range numbersAbout(g) {
			order := someOrder(4)
			high, low := drawsOf(4, x), drawsOf(4, x%g.Q)
			highTalk, lowTalk := talkOf(g, order, high, x, x, x), talkOf(g, order, low, x%g.Q, x%g.Q, x%g.Q)
			if !slices.Equal(First(g, order, high.R), First(g, order, low.R)) ||
				!slices.Equal(Second(g, order, x, high.S), Second(g, order, x%g.Q, low.S)) ||
				!slices.Equal(Third(g, order, highTalk, high), Third(g, order, lowTalk, low)) ||
				!slices.Equal(Exponents(g, order, highTalk, high), Exponents(g, order, lowTalk, low)) {
				t.Errorf("P %d: by %d it is another list than by %d", g.P, x, x%g.Q)
			}
			for i, w := range Exponents(g, order, highTalk, high) {
				if w >= g.Q {
					t.Errorf("P %d: by %d exponent %d is %d", g.P, x, i, w)
				}
			}
		}
	}
}

// TestCommitmentsOfPlaces: of draws of 0 they are powers of G, and X's powers begin
// with the first.
func TestCommitmentsOfPlaces(t *testing.T) {
	g := small()
	zeros := make([]uint64, 3)
	if got := First(g, []int{2, 0, 1}, zeros); !slices.Equal(got, []uint64{64, 4, 16}) {
		t.Errorf("First is %d", got)
	}
	// 4 to the 2, the 4 and the 8, but in the order's order.
	if got := Second(g, []int{2, 0, 1}, 2, zeros); !slices.Equal(got, []uint64{65536 % 2027, 16, 256}) {
		t.Errorf("Second is %d", got)
	}
}

// TestPowersOfXBeyondQ: where the batch has more boxes than Q, the places are taken
// modulo Q, but not as powers of X.
func TestPowersOfXBeyondQ(t *testing.T) {
	g := eleven()
	order := ordersOf(8)[0]
	got := Exponents(g, order, api.Talk{X: 2, Y: 1}, drawsOf(8, 0))
	if want := []uint64{1, 2, 3, 4, 0, 1, 2, 3}; !slices.Equal(got[:8], want) {
		t.Errorf("a is %d, want %d", got[:8], want)
	}
	if want := []uint64{2, 4, 3, 1, 2, 4, 3, 1}; !slices.Equal(got[16:24], want) {
		t.Errorf("b is %d, want %d", got[16:24], want)
	}
}

// TestHowManyExponents: 7 n and Width.
func TestHowManyExponents(t *testing.T) {
	for _, g := range groups() {
		for n := 1; n <= api.MaxBatch; n++ {
			if got := len(Exponents(g, someOrder(n), api.Talk{X: 3, Y: 4, Z: 5}, someDraws(n))); got != 7*n+api.Width {
				t.Errorf("P %d: of %d boxes there are %d exponents", g.P, n, got)
			}
		}
	}
}

// TestTheFirstOfTPlaysNoPart.
func TestTheFirstOfTPlaysNoPart(t *testing.T) {
	for _, g := range groups() {
		for n := 1; n <= api.MaxBatch; n++ {
			order, d := someOrder(n), someDraws(n)
			talk := talkOf(g, order, d, 6, 7, 8)
			third, exponents := Third(g, order, talk, d), Exponents(g, order, talk, d)
			for _, x := range numbersAbout(g) {
				d.T[0] = x
				if !slices.Equal(Third(g, order, talk, d), third) || !slices.Equal(Exponents(g, order, talk, d), exponents) {
					t.Errorf("P %d: with %d they are others", g.P, x)
				}
			}
		}
	}
}

// TestThirdOfWhatIsToldOfT: A and B are taken as they are in the talk, whoever laid
// them down, and each place but the first by its own factor alone.
func TestThirdOfWhatIsToldOfT(t *testing.T) {
	for _, g := range groups() {
		for n := 1; n <= 4; n++ {
			order := someOrder(n)
			talk := api.Talk{A: elements(g, 11, n), B: elements(g, 12, n), X: 9, Y: 10, Z: 11}
			d := api.Draws{T: drawn(7, n)}
			got := Third(g, order, talk, d)
			if want := wantThird(g, order, talk, d.T); !slices.Equal(got, want) || got[0] != wantD(g, talk, 0) {
				t.Errorf("P %d: Third is %d, want %d", g.P, got, want)
			}
		}
	}
}

// noneOf are all lists by an order that is none.
func noneOf(t *testing.T, g api.Params, order []int, talk api.Talk, d api.Draws) {
	t.Helper()
	if l := First(g, order, d.R); l != nil {
		t.Errorf("P %d: First by %d and %d is %d", g.P, order, d.R, l)
	}
	if l := Second(g, order, 3, d.S); l != nil {
		t.Errorf("P %d: Second by %d and %d is %d", g.P, order, d.S, l)
	}
	if l := Third(g, order, talk, d); l != nil {
		t.Errorf("P %d: Third by %d and %d is %d", g.P, order, d, l)
	}
	if l := Exponents(g, order, talk, d); l != nil {
		t.Errorf("P %d: Exponents by %d and %d is %d", g.P, order, d, l)
	}
}

func TestListsByNoOrder(t *testing.T) {
	for _, g := range groups() {
		for n := 1; n <= api.MaxBatch; n++ {
			for _, order := range noOrders(n) {
				// As many as the order has, and as many as it should have.
				for _, m := range []int{len(order), n} {
					talk := api.Talk{A: elements(g, 1, m), X: 3, B: elements(g, 2, m), Y: 4, Z: 5, P: elements(g, 3, m)}
					if m == len(order) && isAnOrder(order) {
						continue // but one of fewer
					}
					noneOf(t, g, order, talk, someDraws(m))
				}
			}
		}
	}
}

func isAnOrder(order []int) bool {
	for i := range order {
		if !slices.Contains(order, i) {
			return false
		}
	}
	return len(order) > 0
}

// TestListsOfOtherCounts: each list that is asked, with fewer and with more, and
// what isn't asked, with none.
func TestListsOfOtherCounts(t *testing.T) {
	for _, g := range groups() {
		for n := 1; n <= api.MaxBatch; n++ {
			order := someOrder(n)
			talk := talkOf(g, order, someDraws(n), 6, 7, 8)
			for _, m := range []int{0, n - 1, n + 1, 2 * n, 100} {
				l, a := drawn(1, m), elements(g, 1, m)
				if m == n {
					continue
				}
				if First(g, order, l) != nil || Second(g, order, 3, l) != nil {
					t.Errorf("P %d: First or Second of %d by %d draws", g.P, n, m)
				}
				ofA, ofB, ofT := talk, talk, someDraws(n)
				ofA.A, ofB.B, ofT.T = a, a, l
				if Third(g, order, ofA, someDraws(n)) != nil || Third(g, order, ofB, someDraws(n)) != nil || Third(g, order, talk, ofT) != nil {
					t.Errorf("P %d: Third of %d by %d of A, B or T", g.P, n, m)
				}
				ofRho, ofR, ofS := someDraws(n), someDraws(n), someDraws(n)
				ofRho.Rho, ofR.R, ofS.S = someRho(m), l, l
				for i, d := range []api.Draws{ofRho, ofR, ofS, ofT} {
					if Exponents(g, order, talk, d) != nil {
						t.Errorf("P %d: Exponents of %d by %d of list %d", g.P, n, m, i)
					}
				}
			}
			checkUnasked(t, g, order, talk, someDraws(n))
		}
	}
}

// checkUnasked: Third asks nothing but A, B and T, and Exponents no list of the
// talk, and not D.
func checkUnasked(t *testing.T, g api.Params, order []int, talk api.Talk, d api.Draws) {
	t.Helper()
	for _, other := range [][]uint64{nil, {5}, drawn(1, 77)} {
		third := talk
		third.P = other
		if got := Third(g, order, third, api.Draws{R: other, S: other, T: d.T, D: other}); !slices.Equal(got, talk.P) {
			t.Errorf("P %d: Third by %d is %d, want %d", g.P, order, got, talk.P)
		}
		all := api.Talk{A: other, B: other, P: other, X: talk.X, Y: talk.Y, Z: talk.Z}
		draws := api.Draws{Rho: d.Rho, R: d.R, S: d.S, T: d.T, D: other}
		if got, want := Exponents(g, order, all, draws), wantExponents(g, order, talk, d); !slices.Equal(got, want) {
			t.Errorf("P %d: Exponents by %d is %d, want %d", g.P, order, got, want)
		}
	}
}

// TestListsByALongOrder: the chapter bounds a batch, and not an order.
func TestListsByALongOrder(t *testing.T) {
	for _, g := range groups() {
		n := api.MaxBatch + 1
		checkLists(t, g, someOrder(n), someDraws(n), 6, 7, 8)
	}
}
