package proof

import (
	"reflect"
	"slices"
	"testing"

	"spandrel/api"
)

func sameProof(a, b api.Proof) bool {
	return slices.Equal(a.Commit, b.Commit) && slices.Equal(a.Answers, b.Answers)
}

// checkProved holds Prove against the chapter's words, and Accept of what it made;
// it answers the proof.
func checkProved(t *testing.T, g api.Params, label string, c api.Claim, w, d []uint64) api.Proof {
	t.Helper()
	p, ok := Prove(g, label, c, w, d)
	if want := wantProof(g, label, c, w, d); !ok || !sameProof(p, want) {
		t.Errorf("P %d: Prove of %d by %d and %d is %d and %t, want %d", g.P, c, w, d, p, ok, want)
	}
	checkAccept(t, g, label, c, p)
	return p
}

// checkAccept holds Accept against the chapter's words.
func checkAccept(t *testing.T, g api.Params, label string, c api.Claim, p api.Proof) {
	t.Helper()
	if got, want := Accept(g, label, c, p), wantAccept(g, label, c, p); got != want {
		t.Errorf("P %d: Accept of %d, %d is %t, want %t", g.P, c, p, got, want)
	}
}

// checkRefused: so what is told isn't accepted, but by accident in a small group.
func checkRefused(t *testing.T, g api.Params, label string, c api.Claim, p api.Proof) {
	t.Helper()
	checkAccept(t, g, label, c, p)
	if isVast(g) && Accept(g, label, c, p) {
		t.Errorf("P %d: %d is accepted of %d", g.P, p, c)
	}
}

// TestNumbersOfAnotherProgram holds proofs against numbers that were worked out by
// a program in another language, out of the chapter's words.
func TestNumbersOfAnotherProgram(t *testing.T) {
	long := api.Params{P: 2305843009213691579, Q: 1152921504606845789, G: 4, H: 9}
	for _, c := range []struct {
		g     api.Params
		label string
		claim api.Claim
		w, d  []uint64
		want  api.Proof
	}{
		{eleven(), "a", api.Claim{Targets: []uint64{5}, Bases: [][]uint64{{4}}}, []uint64{2}, []uint64{3},
			api.Proof{Commit: []uint64{9}, Answers: []uint64{0}}},
		{eleven(), "letter", api.Claim{Targets: []uint64{5}, Bases: [][]uint64{{4}}}, []uint64{2}, []uint64{3},
			api.Proof{Commit: []uint64{9}, Answers: []uint64{1}}},
		{small(), "round 1/cross",
			api.Claim{Targets: []uint64{1471, 495, 208}, Bases: [][]uint64{{4, 1}, {1, 4}, {1077, 1201}}},
			[]uint64{700, 909}, []uint64{1000, 1012},
			api.Proof{Commit: []uint64{1948, 507, 1292}, Answers: []uint64{404, 568}}},
		{long, "l", Keeps(long, wantPower(long, 4, 123456789012345)), []uint64{123456789012345}, []uint64{777},
			api.Proof{Commit: []uint64{1651282682162126277}, Answers: []uint64{600031645449698760}}},
	} {
		p, ok := Prove(c.g, c.label, c.claim, c.w, c.d)
		if !ok || !sameProof(p, c.want) {
			t.Errorf("P %d, %q: Prove is %d and %t, want %d", c.g.P, c.label, p, ok, c.want)
		}
		if !Accept(c.g, c.label, c.claim, c.want) {
			t.Errorf("P %d, %q: %d isn't accepted", c.g.P, c.label, c.want)
		}
	}
}

// TestExample: a proof by the label a isn't one by the label b.
func TestExample(t *testing.T) {
	g := largest()
	c := heldClaim(g, 1, []uint64{3})
	p, ok := Prove(g, "a", c, []uint64{3}, []uint64{77})
	if !ok || !Accept(g, "a", c, p) || Accept(g, "b", c, p) {
		t.Errorf("%d and %t: by a %t, by b %t", p, ok, Accept(g, "a", c, p), Accept(g, "b", c, p))
	}
}

// TestTheChallengeItself: of an exponent of 1 and a draw of 0 the answer is it.
func TestTheChallengeItself(t *testing.T) {
	for _, g := range groups() {
		for _, count := range counts() {
			c := someClaim(g, count[0], count[1])
			ones := slices.Repeat([]uint64{1}, count[0])
			for _, label := range labels() {
				w, d := slices.Repeat([]uint64{1}, count[1]), make([]uint64, count[1])
				want := slices.Repeat([]uint64{wantChallenge(g, label, c, ones)}, count[1])
				p, ok := Prove(g, label, c, w, d)
				if !ok || !slices.Equal(p.Commit, ones) || !slices.Equal(p.Answers, want) {
					t.Errorf("P %d, %d, %q: Prove is %d and %t, want answers %d", g.P, count, label, p, ok, want)
				}
			}
		}
	}
}

// challengeOf reads it out of a proof by exponents of 1.
func challengeOf(g api.Params, label string, c api.Claim, d uint64) uint64 {
	n := len(c.Bases[0])
	p, _ := Prove(g, label, c, slices.Repeat([]uint64{1}, n), slices.Repeat([]uint64{d}, n))
	return (p.Answers[0] + g.Q - d) % g.Q
}

// TestTheChallengeHangsOnAll: whatever is another one, the challenge is.
func TestTheChallengeHangsOnAll(t *testing.T) {
	g := largest()
	a, b := g.G, g.H
	claim := func(targets []uint64, bases ...[]uint64) api.Claim { return api.Claim{Targets: targets, Bases: bases} }
	first := claim([]uint64{a, b}, []uint64{a, b}, []uint64{b, a})
	otherG, otherH := g, g
	otherG.G, otherH.H = wantPower(g, 9, 5), wantPower(g, 9, 7)
	seen := []uint64{
		challengeOf(g, "l", first, 0),
		challengeOf(g, "l", first, 1), // another t
		challengeOf(otherG, "l", first, 0),
		challengeOf(otherH, "l", first, 0),
		challengeOf(g, "m", first, 0),
		challengeOf(g, "", first, 0),
		challengeOf(g, "l", claim([]uint64{b, a}, []uint64{a, b}, []uint64{b, a}), 0),
		challengeOf(g, "l", claim([]uint64{a, a}, []uint64{a, b}, []uint64{b, a}), 0),
		challengeOf(g, "l", claim([]uint64{a, b}, []uint64{b, a}, []uint64{a, b}), 0),
		challengeOf(g, "l", claim([]uint64{a, b}, []uint64{a, b}, []uint64{a, b}), 0),
		challengeOf(g, "l", claim([]uint64{a, b}, []uint64{b, b}, []uint64{b, a}), 0),
		challengeOf(g, "l", claim([]uint64{a, b}, []uint64{a}, []uint64{b}), 0),
		challengeOf(g, "l", claim([]uint64{a}, []uint64{b, a, b, b, a}), 0),
		challengeOf(g, "l", claim([]uint64{a}, []uint64{b}), 0),
	}
	for i, e := range seen {
		if slices.Index(seen, e) != i {
			t.Errorf("the challenges %d and %d are both %d", slices.Index(seen, e), i, e)
		}
	}
}

// TestTheGroupIsInTheChallenge: the P and Q of groups that are like but for them
// are summed up with it, also where a group isn't right.
func TestTheGroupIsInTheChallenge(t *testing.T) {
	g := small()
	c := Keeps(g, 16)
	for _, other := range []api.Params{
		g,
		{P: g.P, Q: g.Q, G: 9, H: 4},
		{P: g.P, Q: g.Q, G: greatest, H: 0},
		{P: g.P, Q: 2 * g.Q, G: 4, H: 9}, // its elements are all that have an inverse
		{P: 11, Q: 5, G: 4, H: 9},
		{P: 23, Q: 11, G: 4, H: 9},
	} {
		p, ok := Prove(other, "l", c, []uint64{2}, []uint64{5})
		if ok != (wantClaim(other, c) == 1) || ok && !sameProof(p, wantProof(other, "l", c, []uint64{2}, []uint64{5})) {
			t.Errorf("P %d, Q %d: Prove is %d and %t", other.P, other.Q, p, ok)
		}
	}
}

// TestProvedIsAccepted: of claims that hold, by each label.
func TestProvedIsAccepted(t *testing.T) {
	for _, g := range groups() {
		for i, count := range counts() {
			w, d := drawn(uint64(i), count[1]), drawn(uint64(i+50), count[1])
			c := heldClaim(g, count[0], w)
			for _, label := range labels() {
				p := checkProved(t, g, label, c, w, d)
				if !Accept(g, label, c, p) {
					t.Errorf("P %d, %d, %q: it isn't accepted", g.P, count, label)
				}
			}
		}
	}
}

// TestTheGreatestClaim: 64 targets of 64 bases each.
func TestTheGreatestClaim(t *testing.T) {
	g, w, d := largest(), drawn(1, 64), drawn(2, 64)
	c := heldClaim(g, 64, w)
	p := checkProved(t, g, "all", c, w, d)
	if !Accept(g, "all", c, p) {
		t.Error("it isn't accepted")
	}
	p.Answers[63]++
	checkRefused(t, g, "all", c, p)
}

// TestExponentsAndDraws: of 0, about Q, and of the greatest number.
func TestExponentsAndDraws(t *testing.T) {
	for _, g := range groups() {
		for _, x := range exponents(g) {
			for _, r := range exponents(g) {
				w, d := []uint64{x, r, 5}, []uint64{r, 3, x}
				c := heldClaim(g, 2, w)
				if p := checkProved(t, g, "e", c, w, d); !Accept(g, "e", c, p) {
					t.Errorf("P %d: by %d and %d it isn't accepted", g.P, w, d)
				}
			}
		}
	}
}

// TestExponentsAreTakenModuloQ: what is proved by them is the same then.
func TestExponentsAreTakenModuloQ(t *testing.T) {
	for _, g := range groups() {
		for _, x := range exponents(g) {
			c := Keeps(g, wantPower(g, g.G, x))
			first, _ := Prove(g, "e", c, []uint64{x}, []uint64{x})
			second, _ := Prove(g, "e", c, []uint64{x % g.Q}, []uint64{x % g.Q})
			if !sameProof(first, second) || first.Answers[0] >= g.Q {
				t.Errorf("P %d: by %d it is %d, and %d modulo Q", g.P, x, first, second)
			}
			// An answer that isn't below Q counts as told by the talk of layer 6.
			first.Answers[0] += g.Q
			if !Accept(g, "e", c, first) {
				t.Errorf("P %d: %d isn't accepted", g.P, first)
			}
		}
	}
}

// TestAClaimThatDoesNotHold is proved, and isn't accepted.
func TestAClaimThatDoesNotHold(t *testing.T) {
	for _, g := range groups() {
		for i, count := range counts() {
			w, d := drawn(uint64(i), count[1]), drawn(uint64(i+50), count[1])
			c := heldClaim(g, count[0], w)
			for place := range w {
				other := slices.Clone(w)
				other[place] = w[place]%g.Q + 1
				checkRefused(t, g, "no", c, checkProved(t, g, "no", c, other, d))
			}
			for j := range c.Targets {
				other := heldClaim(g, count[0], w)
				other.Targets[j] = wantProduct(g, c.Targets[j], g.H)
				checkRefused(t, g, "no", other, checkProved(t, g, "no", other, w, d))
			}
		}
	}
}

func TestEachProofOfTheLeastGroup(t *testing.T) {
	g := eleven()
	all := []uint64{0, 1, 2, 3, 4, 5, 6, 9, 12, 15}
	for _, target := range []uint64{1, 3, 4, 5, 9} {
		for _, base := range []uint64{1, 3, 9} {
			c := api.Claim{Targets: []uint64{target}, Bases: [][]uint64{{base}}}
			for _, a := range all {
				for _, b := range all {
					checkProved(t, g, "each", c, []uint64{a}, []uint64{b})
					checkAccept(t, g, "each", c, api.Proof{Commit: []uint64{a}, Answers: []uint64{b}})
				}
			}
		}
	}
}

func isRefused(p api.Proof, ok bool) bool {
	return reflect.DeepEqual(p, api.Proof{}) && !ok
}

func TestNoClaims(t *testing.T) {
	for _, g := range groups() {
		for i, c := range noClaims(g) {
			for _, n := range []int{0, 1, 2, 3, 64, 65, 1000} {
				l := drawn(5, n)
				if p, ok := Prove(g, "none", c, l, l); !isRefused(p, ok) {
					t.Errorf("P %d, claim %d: Prove by %d is %d and %t", g.P, i, n, p, ok)
				}
				for _, m := range []int{0, 1, 2, len(c.Targets), len(c.Bases)} {
					ones := slices.Repeat([]uint64{1}, m)
					if Accept(g, "none", c, api.Proof{Commit: ones, Answers: l}) || Accept(g, "none", c, api.Proof{Commit: ones, Answers: make([]uint64, n)}) {
						t.Errorf("P %d, claim %d: a Commit of %d and %d answers are accepted", g.P, i, m, n)
					}
				}
			}
		}
	}
}

// TestAStrangerWhereAllElseHolds: a target and a base that would do, taken modulo
// P, and a base of power 0, which counts for nothing in the product.
func TestAStrangerWhereAllElseHolds(t *testing.T) {
	for _, g := range groups() {
		for _, c := range []api.Claim{
			{Targets: []uint64{g.G + g.P}, Bases: [][]uint64{{g.G, g.H}}},
			{Targets: []uint64{g.G}, Bases: [][]uint64{{g.G + g.P, g.H}}},
			{Targets: []uint64{g.G}, Bases: [][]uint64{{g.G, g.H + g.P}}},
			{Targets: []uint64{g.G}, Bases: [][]uint64{{g.G, 2}}},
			{Targets: []uint64{g.G}, Bases: [][]uint64{{g.G, 0}}},
		} {
			w, d := []uint64{1, 0}, []uint64{2, 0}
			if p, ok := Prove(g, "l", c, w, d); !isRefused(p, ok) {
				t.Errorf("P %d: Prove of %d is %d and %t", g.P, c, p, ok)
			}
			if p := wantProof(g, "l", c, w, d); Accept(g, "l", c, p) {
				t.Errorf("P %d: %d is accepted of %d", g.P, p, c)
			}
		}
	}
}

// TestListsThatDoNotFit: all powers of 1 are 1, so that the lengths alone are why
// nothing is proved.
func TestListsThatDoNotFit(t *testing.T) {
	for _, g := range groups() {
		for _, count := range counts() {
			ones := func(n int) []uint64 { return slices.Repeat([]uint64{1}, n) }
			c := api.Claim{Targets: ones(count[0])}
			for range count[0] {
				c.Bases = append(c.Bases, ones(count[1]))
			}
			lengths := []int{0, count[1] - 1, count[1], count[1] + 1, 2 * count[1], 64, 65}
			for _, w := range lengths {
				for _, d := range lengths {
					fits := w == count[1] && d == count[1]
					p, ok := Prove(g, "l", c, drawn(1, w), drawn(2, d))
					if ok != fits || !fits && !isRefused(p, ok) {
						t.Errorf("P %d, %d: Prove by %d and %d is %d and %t", g.P, count, w, d, p, ok)
					}
				}
				if p, ok := Prove(g, "l", c, drawn(1, w), nil); !isRefused(p, ok) {
					t.Errorf("P %d, %d: Prove by no draws is %d and %t", g.P, count, p, ok)
				}
				if p, ok := Prove(g, "l", c, nil, drawn(1, w)); !isRefused(p, ok) {
					t.Errorf("P %d, %d: Prove by nothing is %d and %t", g.P, count, p, ok)
				}
				if got := Accept(g, "l", c, api.Proof{Commit: c.Targets, Answers: drawn(1, w)}); got != (w == count[1]) {
					t.Errorf("P %d, %d: Accept of %d answers is %t", g.P, count, w, got)
				}
			}
			for _, m := range []int{0, count[0] - 1, count[0] + 1, 2 * count[0], 65} {
				if Accept(g, "l", c, api.Proof{Commit: ones(m), Answers: drawn(1, count[1])}) {
					t.Errorf("P %d, %d: a Commit of %d is accepted", g.P, count, m)
				}
			}
		}
	}
}

func TestAnotherLabel(t *testing.T) {
	for _, g := range groups() {
		w, d := []uint64{7, 8}, []uint64{9, 10}
		c := heldClaim(g, 2, w)
		for i, label := range labels() {
			p, _ := Prove(g, label, c, w, d)
			for j, other := range labels() {
				if i != j {
					checkRefused(t, g, other, c, p)
				}
			}
		}
	}
}

// TestAnotherClaim: with another number at each place, in another order, of other
// lengths; also one that holds for the same exponents.
func TestAnotherClaim(t *testing.T) {
	for _, g := range groups() {
		w, d := []uint64{7, 8}, []uint64{9, 10}
		p, _ := Prove(g, "l", heldClaim(g, 3, w), w, d)
		for place := range 9 {
			for _, by := range []uint64{g.G, g.H} {
				c := heldClaim(g, 3, w)
				x := &c.Targets[place%3]
				if place >= 3 {
					x = &c.Bases[(place-3)/2][(place-3)%2]
				}
				*x = wantProduct(g, *x, by)
				checkRefused(t, g, "l", c, p)
				c.Targets = wantImage(g, c, w)
				if place >= 3 {
					checkRefused(t, g, "l", c, p)
				}
			}
		}
		for _, change := range []func(c *api.Claim){
			func(c *api.Claim) { slices.Reverse(c.Targets) },
			func(c *api.Claim) { slices.Reverse(c.Bases) },
			func(c *api.Claim) { slices.Reverse(c.Targets); slices.Reverse(c.Bases) },
			func(c *api.Claim) { slices.Reverse(c.Bases[1]) },
			func(c *api.Claim) { c.Targets, c.Bases = c.Targets[:2], c.Bases[:2] },
			func(c *api.Claim) { c.Targets, c.Bases = append(c.Targets, 1), append(c.Bases, []uint64{1, 1}) },
			func(c *api.Claim) { c.Targets = append(c.Targets, 1) },
			func(c *api.Claim) { c.Bases = append(c.Bases, []uint64{1, 1}) },
		} {
			c := heldClaim(g, 3, w)
			change(&c)
			checkRefused(t, g, "l", c, p)
		}
	}
}

// TestAnotherGroup: one that is like but for its G or H, which play no part in the
// talk of this claim, but in the challenge.
func TestAnotherGroup(t *testing.T) {
	for _, g := range groups() {
		w, d := []uint64{7}, []uint64{9}
		c := heldClaim(g, 1, w)
		p, _ := Prove(g, "l", c, w, d)
		for _, x := range []uint64{3, 5, 16, 25} {
			other, another := g, g
			other.G, another.H = x, x
			checkAccept(t, other, "l", c, p)
			checkAccept(t, another, "l", c, p)
			if isVast(g) && (Accept(other, "l", c, p) || Accept(another, "l", c, p)) {
				t.Errorf("P %d: accepted with %d in place of G or H", g.P, x)
			}
		}
		other := g
		other.Rows = nil
		if !Accept(other, "l", c, p) {
			t.Errorf("P %d: the rows are no part of the challenge", g.P)
		}
	}
}

// TestAnotherCommit: with other elements, with numbers that are none, though they
// would do, taken modulo P, in another order, with more and with fewer.
func TestAnotherCommit(t *testing.T) {
	for _, g := range groups() {
		for _, count := range counts() {
			w, d := drawn(1, count[1]), drawn(2, count[1])
			c := heldClaim(g, count[0], w)
			p, _ := Prove(g, "l", c, w, d)
			x := p.Commit
			for j := range x {
				for _, y := range append(strangers(g), x[j]+g.P, x[j]+2*g.P, g.P-x[j], 1, wantProduct(g, x[j], g.G), wantPower(g, x[j], 2)) {
					other := slices.Clone(x)
					other[j] = y
					if y == x[j] {
						continue
					}
					checkRefused(t, g, "l", c, api.Proof{Commit: other, Answers: p.Answers})
					if !wantElement(g, y) && Accept(g, "l", c, api.Proof{Commit: other, Answers: p.Answers}) {
						t.Errorf("P %d, %d: a Commit with %d in place of %d is accepted", g.P, count, y, x[j])
					}
				}
			}
			for _, other := range [][]uint64{nil, {}, x[:len(x)-1], x[1:], append(slices.Clone(x), 1), append(slices.Clone(x), x...), append([]uint64{1}, x...)} {
				if Accept(g, "l", c, api.Proof{Commit: other, Answers: p.Answers}) {
					t.Errorf("P %d, %d: a Commit of %d numbers is accepted", g.P, count, len(other))
				}
			}
		}
	}
}

// TestAStrangerInTheCommitThatSuits: answers that go with the challenge of just
// that Commit, which is an element's but for P, aren't accepted either.
func TestAStrangerInTheCommitThatSuits(t *testing.T) {
	for _, g := range groups() {
		w, d := []uint64{7}, []uint64{9}
		c := heldClaim(g, 1, w)
		for times := range uint64(3) {
			p := api.Proof{Commit: []uint64{wantImage(g, c, d)[0] + times*g.P}}
			e := number(wantChallenge(g, "l", c, p.Commit))
			z := e.Add(e.Mul(e, number(w[0])), number(d[0]))
			p.Answers = []uint64{z.Mod(z, number(g.Q)).Uint64()}
			if got := Accept(g, "l", c, p); got != (times == 0) {
				t.Errorf("P %d: Accept of %d is %t", g.P, p, got)
			}
		}
	}
}

func TestOtherAnswers(t *testing.T) {
	for _, g := range groups() {
		for _, count := range counts() {
			w, d := drawn(1, count[1]), drawn(2, count[1])
			c := heldClaim(g, count[0], w)
			p, _ := Prove(g, "l", c, w, d)
			z := p.Answers
			for i := range z {
				for _, y := range []uint64{z[i] + 1, z[i] + g.Q - 1, 0, g.P, greatest} {
					other := slices.Clone(z)
					other[i] = y
					checkAccept(t, g, "l", c, api.Proof{Commit: p.Commit, Answers: other})
					// No base is 1, so that each answer counts.
					if y%g.Q != z[i] && Accept(g, "l", c, api.Proof{Commit: p.Commit, Answers: other}) {
						t.Errorf("P %d, %d: %d in place of the answer %d is accepted", g.P, count, y, z[i])
					}
				}
			}
			for _, other := range [][]uint64{nil, {}, z[:len(z)-1], z[1:], append(slices.Clone(z), 0), append(slices.Clone(z), z...), append([]uint64{0}, z...)} {
				if Accept(g, "l", c, api.Proof{Commit: p.Commit, Answers: other}) {
					t.Errorf("P %d, %d: %d answers are accepted", g.P, count, len(other))
				}
			}
			checkRefused(t, g, "l", c, api.Proof{Commit: elements(g, 3, count[0]), Answers: z})
			if Accept(g, "l", c, api.Proof{}) {
				t.Errorf("P %d, %d: the zero proof is accepted", g.P, count)
			}
		}
	}
}

// TestOneWhoKnowsTheChallengeAhead: a talk that is made backwards, of a challenge
// and answers, is no proof, as its challenge is another one.
func TestOneWhoKnowsTheChallengeAhead(t *testing.T) {
	for _, g := range groups() {
		c := someClaim(g, 1, 1)
		for _, e := range exponents(g) {
			for _, z := range exponents(g) {
				x := wantOver(g, wantImage(g, c, []uint64{z})[0], wantPower(g, c.Targets[0], e))
				p := api.Proof{Commit: []uint64{x}, Answers: []uint64{z}}
				want := wantChallenge(g, "l", c, p.Commit) == e%g.Q
				if got := Accept(g, "l", c, p); got != want {
					t.Errorf("P %d: Accept of a talk made of %d and %d is %t", g.P, e, z, got)
				}
			}
		}
	}
}
