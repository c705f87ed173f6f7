package proof

import (
	"reflect"
	"slices"
	"testing"

	"spandrel/api"
	"spandrel/gamal"
	"spandrel/linear"
)

// TestClaimsByHand holds claims against numbers that are worked out without any
// helper.
func TestClaimsByHand(t *testing.T) {
	g := eleven() // the powers of 4 are 1, 4, 5, 9, 3
	box := api.Box{{U: 5, V: 9}, {U: 3, V: 1}, {U: 1, V: 4}}
	for _, c := range []struct {
		name      string
		got, want api.Claim
	}{
		{"Keeps", Keeps(g, 9), api.Claim{Targets: []uint64{9}, Bases: [][]uint64{{4}}}},
		{"Knows", Knows(g, box), api.Claim{Targets: []uint64{5, 3, 1}, Bases: [][]uint64{{4, 1, 1}, {1, 4, 1}, {1, 1, 4}}}},
		{"Shares", Shares(g, 9, box[0], 4), api.Claim{Targets: []uint64{9, 4}, Bases: [][]uint64{{4}, {5}}}},
		// 1 over 5 is 9; 3 over 4 is 9; 4 over 3 is 5.
		{"Crosses", Crosses(g, 9, 3, api.Three{U: 5, W: 4, V: 3}, api.Three{U: 5, W: 3, V: 4}),
			api.Claim{Targets: []uint64{9, 9, 5}, Bases: [][]uint64{{4, 1}, {1, 4}, {9, 3}}}},
	} {
		if !reflect.DeepEqual(c.got, c.want) {
			t.Errorf("%s is %d, want %d", c.name, c.got, c.want)
		}
	}
}

// numbers are elements of the group, and such as are none.
func numbers(g api.Params) []uint64 {
	return append(elements(g, 4, 4), append(strangers(g), 1, 7)...)
}

func TestKeeps(t *testing.T) {
	for _, g := range groups() {
		for _, key := range numbers(g) {
			want := api.Claim{Targets: []uint64{key}, Bases: [][]uint64{{g.G}}}
			if got := Keeps(g, key); !reflect.DeepEqual(got, want) {
				t.Errorf("P %d: Keeps(%d) is %d, want %d", g.P, key, got, want)
			}
		}
	}
}

// someBoxes have pairs that are unlike, partly alike and all alike, of elements
// and of others.
func someBoxes(g api.Params) []api.Box {
	var l []api.Box
	for _, a := range numbers(g) {
		for _, b := range numbers(g) {
			l = append(l,
				api.Box{{U: a, V: b}, {U: b, V: a}, {U: g.H, V: g.G}},
				api.Box{{U: a, V: b}, {U: a, V: b}, {U: b, V: a}},
				api.Box{{U: a, V: b}, {U: a, V: b}, {U: a, V: b}},
			)
		}
	}
	return l
}

func TestKnows(t *testing.T) {
	for _, g := range groups() {
		for _, b := range someBoxes(g) {
			want := api.Claim{
				Targets: []uint64{b[0].U, b[1].U, b[2].U},
				Bases:   [][]uint64{{g.G, 1, 1}, {1, g.G, 1}, {1, 1, g.G}},
			}
			if got := Knows(g, b); !reflect.DeepEqual(got, want) {
				t.Errorf("P %d: Knows of %d is %d, want %d", g.P, b, got, want)
			}
		}
	}
}

func TestShares(t *testing.T) {
	for _, g := range groups() {
		for i, key := range numbers(g) {
			for j, share := range numbers(g) {
				c := api.Pair{U: numbers(g)[(i+3*j)%len(numbers(g))], V: greatest}
				want := api.Claim{Targets: []uint64{key, share}, Bases: [][]uint64{{g.G}, {c.U}}}
				if got := Shares(g, key, c, share); !reflect.DeepEqual(got, want) {
					t.Errorf("P %d: Shares(%d, %d, %d) is %d, want %d", g.P, key, c, share, got, want)
				}
			}
		}
	}
}

func TestCrosses(t *testing.T) {
	for _, g := range groups() {
		for i := range uint64(200) {
			l := elements(g, i, 8)
			if i%3 == 0 {
				l[i%8] = 1
			}
			key, y, a, b := l[0], l[1], api.Three{U: l[2], W: l[3], V: l[4]}, api.Three{U: l[5], W: l[6], V: l[7]}
			want := api.Claim{
				Targets: []uint64{key, wantOver(g, b.W, a.W), wantOver(g, b.V, a.V)},
				Bases:   [][]uint64{{g.G, 1}, {1, g.G}, {wantOver(g, 1, a.U), y}},
			}
			if got := Crosses(g, key, y, a, b); !reflect.DeepEqual(got, want) {
				t.Errorf("P %d: Crosses(%d, %d, %d, %d) is %d, want %d", g.P, key, y, a, b, got, want)
			}
		}
	}
}

// TestCrossesOverNoElement: where no element makes 1 of what is divided by, 0 is
// answered for it, which is none, so that nothing is claimed and nothing proved.
func TestCrossesOverNoElement(t *testing.T) {
	for _, g := range groups() {
		for _, x := range []uint64{0, g.P, 2 * g.P, 2, g.P - 1, g.P - g.G} {
			for place := range 3 {
				a, b := api.Three{U: g.G, W: g.H, V: g.G}, api.Three{U: g.G, W: g.G, V: g.H}
				*[]*uint64{&a.U, &a.W, &a.V}[place] = x
				c := Crosses(g, g.G, g.H, a, b)
				zero := []uint64{c.Bases[2][0], c.Targets[1], c.Targets[2]}
				for i, got := range zero {
					if (got == 0) != (i == place) {
						t.Errorf("P %d: with %d at %d it is %d", g.P, x, place, c)
					}
				}
				if linear.Size(g, c) != 0 {
					t.Errorf("P %d: with %d at %d it is a claim", g.P, x, place)
				}
				if p, ok := Prove(g, "l", c, []uint64{1, 1}, []uint64{2, 3}); !isRefused(p, ok) {
					t.Errorf("P %d: with %d at %d it is proved by %d", g.P, x, place, p)
				}
				if Accept(g, "l", c, api.Proof{Commit: []uint64{1, 1, 1}, Answers: []uint64{0, 0}}) {
					t.Errorf("P %d: with %d at %d something is accepted", g.P, x, place)
				}
			}
		}
	}
}

// TestStrangersAreNotClaimed: with a number that is no element among what is told
// as it came, nothing is claimed.
func TestStrangersAreNotClaimed(t *testing.T) {
	for _, g := range groups() {
		a, b := api.Three{U: g.G, W: g.H, V: g.G}, api.Three{U: g.G, W: g.G, V: g.H}
		for _, x := range strangers(g) {
			for i, c := range []api.Claim{
				Keeps(g, x),
				Knows(g, api.Box{{U: x, V: 1}, {U: 1, V: 1}, {U: 1, V: 1}}),
				Knows(g, api.Box{{U: 1, V: 1}, {U: 1, V: 1}, {U: x, V: 1}}),
				Shares(g, x, api.Pair{U: g.G, V: 1}, g.G),
				Shares(g, g.G, api.Pair{U: x, V: 1}, g.G),
				Shares(g, g.G, api.Pair{U: g.G, V: 1}, x),
				Crosses(g, x, g.H, a, b),
				Crosses(g, g.G, x, a, b),
			} {
				if linear.Size(g, c) != 0 {
					t.Errorf("P %d: claim %d with %d is one", g.P, i, x)
				}
			}
		}
	}
}

// checkKnown: who has w proves c by all labels and draws, and who has others at
// one place doesn't.
func checkKnown(t *testing.T, g api.Params, c api.Claim, w []uint64) {
	t.Helper()
	for i, label := range []string{"", "round 1/letter", "\xff\x00"} {
		for _, d := range [][]uint64{make([]uint64, len(w)), drawn(uint64(i), len(w)), w, slices.Repeat([]uint64{greatest}, len(w))} {
			p := checkProved(t, g, label, c, w, d)
			if !Accept(g, label, c, p) {
				t.Errorf("P %d: by %d and %d %d isn't accepted", g.P, w, d, c)
			}
			for place := range w {
				other := slices.Clone(w)
				other[place] = other[place]%g.Q + 1
				checkRefused(t, g, label, c, checkProved(t, g, label, c, other, d))
			}
		}
	}
}

// checkNotKnown: what was made otherwise isn't accepted as proved by w.
func checkNotKnown(t *testing.T, g api.Params, c api.Claim, w []uint64) {
	t.Helper()
	d := drawn(3, len(w))
	checkRefused(t, g, "l", c, checkProved(t, g, "l", c, w, d))
}

func TestAKeptKeyIsProved(t *testing.T) {
	for _, g := range groups() {
		for _, x := range exponents(g) {
			checkKnown(t, g, Keeps(g, gamal.Key(g, x)), []uint64{x})
			checkNotKnown(t, g, Keeps(g, wantProduct(g, gamal.Key(g, x), g.H)), []uint64{x})
		}
	}
}

func sealedBox(g api.Params, y uint64, m, r []uint64) api.Box {
	var b api.Box
	for i := range b {
		b[i] = gamal.Seal(g, y, m[i], r[i])
	}
	return b
}

// TestASealedBoxIsProved: whatever was sealed, for whatever key, by its draws.
func TestASealedBoxIsProved(t *testing.T) {
	for _, g := range groups() {
		y := gamal.Key(g, 77)
		for i, x := range exponents(g) {
			for _, r := range [][]uint64{{x, 5, 6}, {5, x, 6}, {5, 6, x}, {x, x, x}} {
				b := sealedBox(g, y, elements(g, uint64(i), 3), r)
				checkKnown(t, g, Knows(g, b), r)
				for place := range b {
					other := b
					other[place] = gamal.Again(g, y, b[place], 1)
					checkNotKnown(t, g, Knows(g, other), r)
				}
			}
		}
	}
}

// TestABoxOfAnotherOrder: the draws belong to the pairs' places.
func TestABoxOfAnotherOrder(t *testing.T) {
	g := largest()
	r := []uint64{11, 12, 13}
	b := sealedBox(g, g.H, elements(g, 1, 3), r)
	p, _ := Prove(g, "l", Knows(g, b), r, drawn(1, 3))
	checkNotKnown(t, g, Knows(g, b), []uint64{12, 11, 13})
	b[0], b[1] = b[1], b[0]
	checkRefused(t, g, "l", Knows(g, b), p)
	checkKnown(t, g, Knows(g, b), []uint64{12, 11, 13})
}

// TestALetterWithAnotherOnesProof: it isn't accepted of this box.
func TestALetterWithAnotherOnesProof(t *testing.T) {
	g := largest()
	first := sealedBox(g, g.H, elements(g, 1, 3), []uint64{11, 12, 13})
	second := sealedBox(g, g.H, elements(g, 1, 3), []uint64{21, 22, 23})
	p, _ := Prove(g, "l", Knows(g, first), []uint64{11, 12, 13}, drawn(1, 3))
	if !Accept(g, "l", Knows(g, first), p) || Accept(g, "l", Knows(g, second), p) {
		t.Error("the proof is another box's")
	}
}

func TestAMadeShareIsProved(t *testing.T) {
	for _, g := range groups() {
		for i, x := range exponents(g) {
			key := gamal.Key(g, x)
			for _, r := range []uint64{0, 1, g.Q, 12345, greatest} {
				c := gamal.Seal(g, key, elements(g, uint64(i), 1)[0], r)
				share := gamal.Share(g, x, c)
				checkKnown(t, g, Shares(g, key, c, share), []uint64{x})
				checkNotKnown(t, g, Shares(g, key, c, wantProduct(g, share, g.G)), []uint64{x})
				checkNotKnown(t, g, Shares(g, wantProduct(g, key, g.G), c, share), []uint64{x})
			}
		}
	}
}

// TestAShareByAnotherSecret: by one for the key and another one for the share
// nothing is proved, whichever is told.
func TestAShareByAnotherSecret(t *testing.T) {
	g := largest()
	c := gamal.Seal(g, g.H, g.G, 5)
	claim := Shares(g, gamal.Key(g, 7), c, gamal.Share(g, 8, c))
	checkNotKnown(t, g, claim, []uint64{7})
	checkNotKnown(t, g, claim, []uint64{8})
}

func TestACrossingIsProved(t *testing.T) {
	for _, g := range groups() {
		y := gamal.Key(g, 4321)
		for i, x := range exponents(g) {
			for _, r := range []uint64{0, g.Q, 12345, greatest} {
				key := gamal.Key(g, x)
				l := elements(g, uint64(i), 3)
				for _, a := range []api.Three{gamal.Enter(gamal.Seal(g, key, l[0], 99)), {U: l[0], W: l[1], V: l[2]}} {
					b := gamal.Cross(g, x, y, a, r)
					checkKnown(t, g, Crosses(g, key, y, a, b), []uint64{x, r})
				}
			}
		}
	}
}

// TestChainsOfCrossings: of two secrets' joined key, one behind the other.
func TestChainsOfCrossings(t *testing.T) {
	for _, g := range groups() {
		secrets, draws := []uint64{17, greatest}, []uint64{g.Q + 3, 6}
		keys := []uint64{gamal.Key(g, secrets[0]), gamal.Key(g, secrets[1])}
		y := gamal.Key(g, 29)
		a := gamal.Enter(gamal.Seal(g, gamal.Join(g, keys), g.H, 1234567))
		for i := range secrets {
			b := gamal.Cross(g, secrets[i], y, a, draws[i])
			checkKnown(t, g, Crosses(g, keys[i], y, a, b), []uint64{secrets[i], draws[i]})
			a = b
		}
		c := gamal.Leave(a)
		share := gamal.Share(g, 29, c)
		checkKnown(t, g, Shares(g, y, c, share), []uint64{29})
		if got := gamal.Open(g, c, []uint64{share}); got != g.H {
			t.Errorf("P %d: %d is opened", g.P, got)
		}
	}
}

// TestACrossingThatWasMadeOtherwise: by another secret, for another key, by two
// draws, of something else, or to something else.
func TestACrossingThatWasMadeOtherwise(t *testing.T) {
	for _, g := range groups() {
		const x, r = 700, 909
		key, y := gamal.Key(g, x), gamal.Key(g, 55)
		a := api.Three{U: wantPower(g, g.G, 31), W: wantPower(g, g.G, 17), V: g.H}
		b := gamal.Cross(g, x, y, a, r)
		by := func(n uint64) uint64 { return wantProduct(g, n, g.G) }
		for i, c := range []api.Claim{
			Crosses(g, by(key), y, a, b),
			Crosses(g, key, by(y), a, b),
			Crosses(g, key, y, api.Three{U: by(a.U), W: a.W, V: a.V}, b),
			Crosses(g, key, y, api.Three{U: a.U, W: by(a.W), V: a.V}, b),
			Crosses(g, key, y, api.Three{U: a.U, W: a.W, V: by(a.V)}, b),
			Crosses(g, key, y, a, api.Three{U: b.U, W: by(b.W), V: b.V}),
			Crosses(g, key, y, a, api.Three{U: b.U, W: b.W, V: by(b.V)}),
			Crosses(g, key, y, b, a),
			Crosses(g, key, y, a, api.Three{U: b.U, W: b.V, V: b.W}),
			Crosses(g, key, y, a, gamal.Cross(g, x+1, y, a, r)),
			Crosses(g, key, y, a, gamal.Cross(g, x, by(y), a, r)),
			Crosses(g, key, y, a, gamal.Cross(g, x, y, a, r+1)),
			Crosses(g, key, y, a, api.Three{U: a.U, W: gamal.Cross(g, x, y, a, r+1).W, V: b.V}),
		} {
			// Where all that differs is raised to 0, the claim holds all the same.
			if isVast(g) && linear.Holds(g, c, []uint64{x, r}) {
				t.Errorf("P %d: claim %d holds", g.P, i)
			}
			checkNotKnown(t, g, c, []uint64{x, r})
		}
	}
}

// TestTheUOfWhatCameOutIsNotAsked: the chapter has no place for it in the claim.
func TestTheUOfWhatCameOutIsNotAsked(t *testing.T) {
	g := small()
	a, b := api.Three{U: 4, W: 9, V: 16}, api.Three{U: 4, W: 36, V: 64}
	want := Crosses(g, 4, 9, a, b)
	for _, x := range numbers(g) {
		b.U = x
		if got := Crosses(g, 4, 9, a, b); !reflect.DeepEqual(got, want) {
			t.Errorf("with %d it is %d, want %d", x, got, want)
		}
	}
}
