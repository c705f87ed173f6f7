package shuffle

import (
	"fmt"
	"slices"
	"testing"

	"spandrel/api"
	"spandrel/linear"
)

// handBoxes: what handTalk is about: in and out, for the key 5, worked out by hand.
func handBoxes() (in, out []api.Box) {
	return []api.Box{{{U: 1, V: 1}, {U: 4, V: 5}, {U: 9, V: 3}}, {{U: 5, V: 4}, {U: 3, V: 9}, {U: 1, V: 4}}},
		[]api.Box{{{U: 9, V: 9}, {U: 4, V: 5}, {U: 9, V: 5}}, {{U: 3, V: 9}, {U: 4, V: 5}, {U: 3, V: 4}}}
}

// rowOf is one of n bases, of which those that are told aren't 1.
func rowOf(n int, bases map[int]uint64) []uint64 {
	l := slices.Repeat([]uint64{1}, n)
	for place, base := range bases {
		l[place] = base
	}
	return l
}

func TestClaimByHand(t *testing.T) {
	order, talk, d := handTalk()
	in, out := handBoxes()
	if got := checkMixed(t, eleven(), 5, in, order, d.Rho); !slices.Equal(got, out) {
		t.Errorf("%d is mixed, want %d", got, out)
	}
	// Of the exponents a stands at 0 and 1, r at 2 and 3, b at 4 and 5, s at 6 and
	// 7, d at 8 and 9, u at 10 and 11, t at 12, t' at 13, rho from 14 on.
	want := api.Claim{
		Targets: []uint64{1, 5, 9, 3, 5, 3, 5, 4, 9, 3, 9, 4, 4, 5},
		Bases: [][]uint64{
			rowOf(17, map[int]uint64{0: 4, 2: 9}), rowOf(17, map[int]uint64{1: 4, 3: 9}),
			rowOf(17, map[int]uint64{4: 4, 6: 9}), rowOf(17, map[int]uint64{5: 4, 7: 9}),
			rowOf(17, map[int]uint64{8: 4, 10: 9}), rowOf(17, map[int]uint64{9: 4, 11: 9}),
			rowOf(17, map[int]uint64{9: 5, 12: 9}),
			rowOf(17, map[int]uint64{13: 9}),
			rowOf(17, map[int]uint64{4: 9, 5: 3, 14: 4}), rowOf(17, map[int]uint64{4: 9, 5: 9, 14: 5}),
			rowOf(17, map[int]uint64{4: 4, 5: 4, 15: 4}), rowOf(17, map[int]uint64{4: 5, 5: 5, 15: 5}),
			rowOf(17, map[int]uint64{4: 9, 5: 3, 16: 4}), rowOf(17, map[int]uint64{4: 5, 5: 4, 16: 5}),
		},
	}
	got, ok := Claim(eleven(), 5, in, out, talk)
	if !ok || !sameClaim(got, want) {
		t.Errorf("Claim is %d and %t, want %d", got, ok, want)
	}
	if !linear.Holds(eleven(), got, handExponents()) {
		t.Error("it doesn't hold")
	}
}

// TestClaimsOfAnotherProgram holds one of one box and one of two against numbers
// that were worked out by a program in another language.
func TestClaimsOfAnotherProgram(t *testing.T) {
	one := []api.Box{{{U: 4, V: 9}, {U: 16, V: 36}, {U: 64, V: 144}}}
	oneOut := []api.Box{{{U: 42, V: 1499}, {U: 672, V: 667}, {U: 617, V: 121}}}
	oneTalk := api.Talk{A: []uint64{324}, X: 766, B: []uint64{550}, Y: 666, Z: 862, P: []uint64{978}}
	got, ok := Claim(small(), 16, one, oneOut, oneTalk)
	want := api.Claim{Targets: []uint64{324, 550, 978, 1012, 137, 1779, 526, 483, 1117, 1307}, Bases: [][]uint64{
		{4, 9, 1, 1, 1, 1, 1, 1, 1, 1}, {1, 1, 4, 9, 1, 1, 1, 1, 1, 1}, {1, 1, 1, 1, 4, 9, 1, 1, 1, 1}, {1, 1, 1, 1, 1, 1, 9, 1, 1, 1},
		{1, 1, 42, 1, 1, 1, 1, 4, 1, 1}, {1, 1, 1499, 1, 1, 1, 1, 16, 1, 1}, {1, 1, 672, 1, 1, 1, 1, 1, 4, 1},
		{1, 1, 667, 1, 1, 1, 1, 1, 16, 1}, {1, 1, 617, 1, 1, 1, 1, 1, 1, 4}, {1, 1, 121, 1, 1, 1, 1, 1, 1, 16},
	}}
	if !ok || !sameClaim(got, want) {
		t.Errorf("Claim is %d and %t, want %d", got, ok, want)
	}
	two := append(slices.Clone(one), api.Box{{U: 25, V: 49}, {U: 81, V: 121}, {U: 169, V: 256}})
	twoOut := []api.Box{{{U: 1276, V: 1855}, {U: 1375, V: 609}, {U: 14, V: 1116}}, {{U: 661, V: 121}, {U: 441, V: 1663}, {U: 975, V: 1028}}}
	twoTalk := api.Talk{A: []uint64{1296, 1304}, X: 843, B: []uint64{633, 418}, Y: 485, Z: 145, P: []uint64{117, 1622}}
	got, ok = Claim(small(), 16, two, twoOut, twoTalk)
	targets := []uint64{1296, 1304, 633, 418, 117, 1468, 1622, 1896, 1818, 1108, 1123, 123, 675, 988}
	if !ok || !slices.Equal(got.Targets, targets) {
		t.Errorf("its targets are %d, want %d", got.Targets, targets)
	}
	if row := (rowOf(17, map[int]uint64{9: 117, 12: 9})); !slices.Equal(got.Bases[6], row) {
		t.Errorf("row 6 is %d, want %d", got.Bases[6], row)
	}
	if row := (rowOf(17, map[int]uint64{4: 1116, 5: 1028, 16: 16})); !slices.Equal(got.Bases[13], row) {
		t.Errorf("row 13 is %d, want %d", got.Bases[13], row)
	}
}

// checkClaim holds Claim against the chapter's words; it answers it.
func checkClaim(t *testing.T, g api.Params, y uint64, in, out []api.Box, talk api.Talk) api.Claim {
	t.Helper()
	c, ok := Claim(g, y, in, out, talk)
	if want := wantClaim(g, y, in, out, talk); !ok || !sameClaim(c, want) {
		t.Fatalf("P %d: Claim for %d of %d, %d, %d is %d and %t, want %d", g.P, y, in, out, talk, c, ok, want)
	}
	if n := len(in); linear.Size(g, c) != 7*n+api.Width || len(c.Targets) != 4*n+2*api.Width {
		t.Errorf("P %d: of %d boxes it is about %d exponents, and has %d targets", g.P, n, linear.Size(g, c), len(c.Targets))
	}
	return c
}

func checkNoClaim(t *testing.T, name string, g api.Params, y uint64, in, out []api.Box, talk api.Talk) {
	t.Helper()
	if c, ok := Claim(g, y, in, out, talk); ok || c.Targets != nil || c.Bases != nil {
		t.Errorf("P %d, %s: Claim for %d of %d, %d, %d is %d and %t", g.P, name, y, in, out, talk, c, ok)
	}
}

// strangeTalk is of elements that nobody laid down who mixed, but with a P of 0 by
// which there is a claim.
func strangeTalk(g api.Params, n int, x, y, z uint64) api.Talk {
	t := api.Talk{A: elements(g, 11, n), X: x, B: elements(g, 12, n), Y: y, Z: z, P: elements(g, 13, n)}
	t.P[0] = wantD(g, t, 0)
	return t
}

// TestClaim: also of batches of which one isn't the other, mixed, and of talks that
// nobody says who mixed: a claim need not hold.
func TestClaim(t *testing.T) {
	for _, g := range groups() {
		for n := 1; n <= api.MaxBatch; n++ {
			in, out := someBoxes(g, n), someBoxes(g, n+1)[1:]
			for _, x := range [][]uint64{drawn(1, 3), drawn(2, 3), {0, 0, 0}} {
				talk := strangeTalk(g, n, x[0], x[1], x[2])
				c := checkClaim(t, g, someKey(g), in, out, talk)
				if isVast(g) && linear.Holds(g, c, Exponents(g, someOrder(n), talk, someDraws(n))) {
					t.Errorf("P %d: of %d boxes it holds", g.P, n)
				}
			}
		}
	}
}

// TestClaimOfEdgeElements: of 1 everywhere, and of the key 1.
func TestClaimOfEdgeElements(t *testing.T) {
	for _, g := range groups() {
		for n := 1; n <= api.MaxBatch; n++ {
			ones := slices.Repeat([]uint64{1}, n)
			boxes := slices.Repeat([]api.Box{{{U: 1, V: 1}, {U: 1, V: 1}, {U: 1, V: 1}}}, n)
			talk := api.Talk{A: ones, B: ones, P: slices.Clone(ones), X: 5, Y: 6}
			checkClaim(t, g, 1, boxes, boxes, talk)
		}
	}
}

// TestClaimOfNumbersAboutQ: X, Y and Z are any numbers, and taken modulo Q.
func TestClaimOfNumbersAboutQ(t *testing.T) {
	for _, g := range groups() {
		in, out := someBoxes(g, 3), someBoxes(g, 4)[1:]
		for _, x := range numbersAbout(g) {
			for _, l := range [][3]uint64{{x, 7, 8}, {6, x, 8}, {6, 7, x}, {x, x, x}} {
				c := checkClaim(t, g, someKey(g), in, out, strangeTalk(g, 3, l[0], l[1], l[2]))
				same, _ := Claim(g, someKey(g), in, out, strangeTalk(g, 3, l[0]%g.Q, l[1]%g.Q, l[2]%g.Q))
				if !sameClaim(c, same) {
					t.Errorf("P %d: of %d it isn't as modulo Q", g.P, l)
				}
			}
		}
	}
}

// TestNoClaimOfUnlikeSizes: of all counts of in, out, A, B and P about n.
func TestNoClaimOfUnlikeSizes(t *testing.T) {
	for _, g := range groups() {
		for _, n := range []int{1, 2, 3, api.MaxBatch} {
			for place := range 5 {
				for _, m := range []int{0, n - 1, n + 1, 2 * n, 40} {
					in, out, talk := someBoxes(g, n), someBoxes(g, n), strangeTalk(g, n, 6, 7, 8)
					lists := []*[]uint64{&talk.A, &talk.B, &talk.P}
					switch place {
					case 0:
						in = someBoxes(g, m)
					case 1:
						out = someBoxes(g, m)
					default:
						l := *lists[place-2]
						*lists[place-2] = slices.Concat(l, elements(g, 5, 40))[:m]
					}
					checkNoClaim(t, fmt.Sprint("list ", place, " of ", m), g, g.G, in, out, talk)
				}
			}
		}
	}
}

func TestNoClaimOfNoneAndOfOneMore(t *testing.T) {
	for _, g := range groups() {
		checkNoClaim(t, "nothing", g, g.G, nil, nil, api.Talk{})
		checkNoClaim(t, "nothing", g, g.G, []api.Box{}, []api.Box{}, api.Talk{A: []uint64{}, X: 1, B: []uint64{}, P: []uint64{}})
		nine := api.MaxBatch + 1
		checkNoClaim(t, "nine", g, g.G, someBoxes(g, nine), someBoxes(g, nine), strangeTalk(g, nine, 6, 7, 8))
	}
}

// TestNoClaimOfWhatIsNoElement: at each place of all lists, and as the key.
func TestNoClaimOfWhatIsNoElement(t *testing.T) {
	for _, g := range groups() {
		for _, n := range []int{1, 2, api.MaxBatch} {
			for _, x := range strangers(g) {
				places := 2*len(numbersIn(someBoxes(g, n))) + 3*n
				for place := range places {
					in, out, talk := someBoxes(g, n), someBoxes(g, n), strangeTalk(g, n, 6, 7, 8)
					all := slices.Concat(numbersIn(in), numbersIn(out))
					for i := range n {
						all = append(all, &talk.A[i], &talk.B[i], &talk.P[i])
					}
					*all[place] = x
					checkNoClaim(t, fmt.Sprint(x, " at ", place), g, g.G, in, out, talk)
				}
				checkNoClaim(t, "key", g, x, someBoxes(g, n), someBoxes(g, n), strangeTalk(g, n, 6, 7, 8))
			}
		}
	}
}

// TestNoClaimOfStrangersInAThatSuit: also where a P of 0 is what D of 0 comes to with
// the number that is no element.
func TestNoClaimOfStrangersInAThatSuit(t *testing.T) {
	for _, g := range groups() {
		in, out := someBoxes(g, 2), someBoxes(g, 2)
		for _, x := range strangers(g) {
			for _, list := range []string{"A", "B"} {
				talk := strangeTalk(g, 2, 6, 2, 8)
				if list == "A" {
					talk.A[0] = x
				} else {
					talk.B[0] = x
				}
				talk.P[0] = wantD(g, talk, 0)
				checkNoClaim(t, list, g, g.G, in, out, talk)
			}
			talk := strangeTalk(g, 2, 6, 7, 8)
			talk.P[0] += g.P
			checkNoClaim(t, "P", g, g.G, in, out, talk)
		}
	}
}

// TestNoClaimWherePOf0IsNotDOf0: of all other elements there, and of all numbers
// that D hangs on.
func TestNoClaimWherePOf0IsNotDOf0(t *testing.T) {
	for _, g := range groups() {
		for _, n := range []int{1, 2, api.MaxBatch} {
			in, out := someBoxes(g, n), someBoxes(g, n)
			for i, change := range []func(t *api.Talk){
				func(t *api.Talk) { t.P[0] = wantProduct(g, t.P[0], g.G) },
				func(t *api.Talk) { t.P[0] = wantProduct(g, t.P[0], g.H) },
				func(t *api.Talk) { t.A[0] = wantProduct(g, t.A[0], g.G) },
				func(t *api.Talk) { t.B[0] = wantProduct(g, t.B[0], g.G) },
				func(t *api.Talk) { t.Y++ },
				func(t *api.Talk) { t.Z++ },
				func(t *api.Talk) { t.Z += g.Q - 1 },
			} {
				talk := strangeTalk(g, n, 6, 7, 8)
				change(&talk)
				checkNoClaim(t, fmt.Sprint("change ", i), g, g.G, in, out, talk)
			}
			// X and the others of P play no part in it.
			talk := strangeTalk(g, n, 6, 7, 8)
			talk.X++
			if n > 1 {
				talk.P[1] = wantProduct(g, talk.P[1], g.G)
			}
			checkClaim(t, g, g.G, in, out, talk)
		}
	}
}

// TestTheClaimOfOneWhoMixedHolds: for the exponents, whatever the challenges.
func TestTheClaimOfOneWhoMixedHolds(t *testing.T) {
	for _, g := range groups() {
		y := someKey(g)
		for n := 1; n <= api.MaxBatch; n++ {
			in := someBoxes(g, n)
			for i, order := range ordersOf(n) {
				l := drawn(uint64(10*n+i), 3)
				checkHolds(t, g, y, in, order, someDraws(n), l[0], l[1], l[2])
				checkHolds(t, g, y, in, order, someDraws(n), 0, g.Q, greatest)
			}
		}
		for _, n := range []int{1, 3} {
			for _, x := range numbersAbout(g) {
				for _, l := range [][3]uint64{{x, 7, 8}, {6, x, 8}, {6, 7, x}, {x, x, x}} {
					checkHolds(t, g, y, someBoxes(g, n), someOrder(n), someDraws(n), l[0], l[1], l[2])
					checkHolds(t, g, y, someBoxes(g, n), someOrder(n), drawsOf(n, x), l[0], l[1], l[2])
				}
			}
		}
	}
}

// checkHolds is of lists that the calls themselves answer.
func checkHolds(t *testing.T, g api.Params, y uint64, in []api.Box, order []int, d api.Draws, x, why, z uint64) {
	t.Helper()
	out, _ := Mix(g, y, in, order, d.Rho)
	talk := api.Talk{A: First(g, order, d.R), X: x, B: Second(g, order, x, d.S), Y: why, Z: z}
	talk.P = Third(g, order, talk, d)
	c, ok := Claim(g, y, in, out, talk)
	if !ok || !linear.Holds(g, c, Exponents(g, order, talk, d)) {
		t.Errorf("P %d: by %d, %d and the challenges %d, %d, %d there is %t claim that holds", g.P, order, d, x, why, z, ok)
	}
}

// TestTheClaimHoldsForNoOthers: with one exponent changed it doesn't, but where all
// that is raised to it is 1.
func TestTheClaimHoldsForNoOthers(t *testing.T) {
	for _, g := range groups() {
		for _, n := range []int{1, 2, 4} {
			in, order, d := someBoxes(g, n), someOrder(n), someDraws(n)
			out := wantMixed(g, g.H, in, order, d.Rho)
			talk := talkOf(g, order, d, 6, 7, 8)
			c := checkClaim(t, g, g.H, in, out, talk)
			w := Exponents(g, order, talk, d)
			for i := range w {
				other := slices.Clone(w)
				other[i]++
				if linear.Holds(g, c, other) {
					t.Errorf("P %d: with exponent %d changed it holds", g.P, i)
				}
			}
		}
	}
}

// TestOneWhoSaysABoxTwice: by places that are no order nobody makes the claim hold:
// the product of the factors is another one then, and what comes out isn't what came in.
func TestOneWhoSaysABoxTwice(t *testing.T) {
	g := largest()
	in, d := someBoxes(g, 3), someDraws(3)
	for _, places := range [][]int{{0, 0, 1}, {2, 2, 2}, {0, 1, 3}} {
		seen := append(slices.Clone(in), someBoxes(g, 4)[3])
		out := wantMixed(g, g.H, seen, places, d.Rho)
		talk := talkOf(g, places, d, 61, 72, 83)
		c := checkClaim(t, g, g.H, in, out, talk)
		if linear.Holds(g, c, wantExponents(g, places, talk, d)) {
			t.Errorf("by %d it holds", places)
		}
	}
}

// TestWhoKnowsNothingMakesTheSameTalk: of a challenge and answers, the very talk that
// one who mixed makes by draws that are told.
func TestWhoKnowsNothingMakesTheSameTalk(t *testing.T) {
	for _, g := range groups() {
		for n := 1; n <= api.MaxBatch; n++ {
			in, order, d := someBoxes(g, n), someOrder(n), someDraws(n)
			out, _ := Mix(g, g.H, in, order, d.Rho)
			for i, x := range [][3]uint64{{6, 7, 8}, {0, g.Q, greatest}, [3]uint64(drawn(uint64(n), 3))} {
				talk := talkOf(g, order, d, x[0], x[1], x[2])
				c := checkClaim(t, g, g.H, in, out, talk)
				w := Exponents(g, order, talk, d)
				for _, e := range []uint64{0, 1, g.Q - 1, g.Q, 987654321, greatest} {
					checkFaked(t, g, c, w, e, drawn(e+uint64(i), len(w)))
				}
				checkFaked(t, g, c, w, 5, slices.Repeat([]uint64{greatest}, len(w)))
				checkFaked(t, g, c, w, 5, make([]uint64, len(w)))
			}
		}
	}
}

func checkFaked(t *testing.T, g api.Params, c api.Claim, w []uint64, e uint64, z []uint64) {
	t.Helper()
	faked, ok := linear.Fake(g, c, e, z)
	if !ok || !linear.Accepts(g, c, faked, e, z) {
		t.Errorf("P %d: what is made of %d and %d isn't accepted", g.P, e, z)
	}
	draws, _ := linear.Draws(g, w, z, e)
	real, ok := linear.Image(g, c, draws)
	answers, _ := linear.Answer(g, w, draws, e)
	for i := range answers {
		if answers[i] != z[i]%g.Q {
			t.Errorf("P %d: by the draws that are told answer %d is %d, want %d", g.P, i, answers[i], z[i])
		}
	}
	if !ok || !slices.Equal(real, faked) {
		t.Errorf("P %d: of %d and %d %d is made, and by one who knows %d", g.P, e, z, faked, real)
	}
}
