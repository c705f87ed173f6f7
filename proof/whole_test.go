package proof

import (
	"reflect"
	"slices"
	"strings"
	"testing"

	"spandrel/api"
	"spandrel/group"
)

// brokenGroups aren't right, in ways that may break a call.
func brokenGroups() []api.Params {
	l := []api.Params{{}, {P: greatest, Q: greatest, G: greatest, H: greatest}, {P: 15, Q: 7, G: 3, H: 5}, {P: 12, Q: 6, G: 6, H: 4}, {P: 15, Q: 4, G: 2, H: 8}}
	edges := []uint64{0, 1, 2, 3, 4, 11, 1<<62 - 1, api.MostMod, api.MostMod + 1, 1 << 63, greatest - 1, greatest}
	for _, p := range edges {
		for _, q := range edges {
			l = append(l,
				api.Params{P: p, Q: q, G: 4, H: 9, Rows: eleven().Rows},
				api.Params{P: p, Q: q, G: greatest, H: 0, Rows: []api.Row{{}, row(greatest, greatest, greatest)}},
			)
		}
	}
	return l
}

// claimsOf are what the numbers a and b make of all calls that answer claims.
func claimsOf(g api.Params, a, b uint64) []api.Claim {
	c, s, t := api.Pair{U: a, V: b}, api.Three{U: a, W: b, V: a}, api.Three{U: b, W: a, V: b}
	return []api.Claim{
		Keeps(g, a), Knows(g, api.Box{c, c, {U: b, V: a}}), Shares(g, a, c, b), Crosses(g, a, b, s, t), Crosses(g, b, a, t, s),
	}
}

// callAll proves and accepts a claim by lists that go with it, and by others.
func callAll(g api.Params, label string, c api.Claim, l []uint64) {
	for _, w := range [][]uint64{l, nil, c.Targets} {
		for _, d := range [][]uint64{l, nil, c.Targets} {
			p, _ := Prove(g, label, c, w, d)
			Accept(g, label, c, p)
			Accept(g, label, c, api.Proof{Commit: w, Answers: d})
		}
	}
}

func ends(calls func()) (ok bool) {
	defer func() { ok = recover() == nil }()
	calls()
	return
}

// TestEveryCallEnds: of groups that aren't right, and of numbers that are no
// elements of a right one, something is answered.
func TestEveryCallEnds(t *testing.T) {
	for _, g := range slices.Concat(brokenGroups(), groups()) {
		numbers := []uint64{0, 1, 2, 5, g.P - 1, g.P, g.Q, 1 << 62, greatest}
		for _, a := range numbers {
			for _, b := range numbers {
				if !ends(func() {
					for _, c := range claimsOf(g, a, b) {
						callAll(g, "l", c, []uint64{b, a, greatest}[:len(c.Bases[0])])
					}
				}) {
					t.Fatalf("P %d, Q %d: a call of %d and %d panics", g.P, g.Q, a, b)
				}
			}
		}
	}
}

// TestBrokenGroupsHaveClaimsToo: else the test above says little of the challenge.
func TestBrokenGroupsHaveClaimsToo(t *testing.T) {
	count := 0
	for _, g := range brokenGroups() {
		if p, ok := Prove(g, "l", Keeps(g, 1), []uint64{3}, []uint64{4}); ok {
			count++
			Accept(g, "l", Keeps(g, 1), p)
		}
	}
	if count == 0 {
		t.Error("nothing is proved in any of them")
	}
}

// TestEveryCallEndsOfAnyLengths: also of claims that have no room for what is
// handed in with them.
func TestEveryCallEndsOfAnyLengths(t *testing.T) {
	var claims [3][]api.Claim
	for i, g := range groups() {
		claims[i] = append(noClaims(g), someClaim(g, 64, 64))
	}
	for i, g := range slices.Concat(groups(), brokenGroups()) {
		for _, c := range claims[i%3] {
			for _, n := range []int{0, 1, 2, 65} {
				if !ends(func() { callAll(g, "", c, drawn(uint64(i), n)) }) {
					t.Fatalf("P %d, Q %d: a call of %d and %d numbers panics", g.P, g.Q, c, n)
				}
			}
		}
	}
}

// TestLongLists: of lists that are far too long nothing is proved or accepted, be
// they a claim's, a proof's or those of one who proves.
func TestLongLists(t *testing.T) {
	g := largest()
	l := slices.Repeat([]uint64{g.G, greatest, 9, 0}, 1<<10)
	rows := slices.Repeat([][]uint64{l}, len(l))
	for _, c := range []api.Claim{{Targets: l, Bases: rows}, {Targets: []uint64{4}, Bases: rows}, {Targets: l, Bases: [][]uint64{l}}, {Targets: []uint64{4}, Bases: [][]uint64{l}}} {
		if p, ok := Prove(g, "l", c, l, l); !isRefused(p, ok) {
			t.Errorf("a long list is proved by %d", p)
		}
		if Accept(g, "l", c, api.Proof{Commit: l, Answers: l}) {
			t.Error("a long list is accepted")
		}
	}
	c := Keeps(g, g.H)
	if Accept(g, "l", c, api.Proof{Commit: l, Answers: l}) || Accept(g, "l", c, api.Proof{Commit: []uint64{4}, Answers: l}) {
		t.Error("a long proof is accepted")
	}
	if p, ok := Prove(g, "l", c, l, l); !isRefused(p, ok) {
		t.Errorf("long lists prove %d", p)
	}
}

// TestALongLabel: one of a million bytes, and one that is longer by a byte.
func TestALongLabel(t *testing.T) {
	g := largest()
	label := strings.Repeat("label/", 170000)
	w, d := []uint64{5}, []uint64{6}
	c := heldClaim(g, 1, w)
	p := checkProved(t, g, label, c, w, d)
	if !Accept(g, label, c, p) {
		t.Error("it isn't accepted by its label")
	}
	checkRefused(t, g, label+"l", c, p)
	checkRefused(t, g, label[1:], c, p)
}

// withRoom answers l with room behind it, which is not to be written to.
func withRoom(l []uint64) (list, all []uint64) {
	all = append(slices.Clone(l), 4, 9, 16)
	return all[:len(l)], all
}

func TestWhatIsHandedInStays(t *testing.T) {
	makers := []func() api.Params{eleven, small, largest, func() api.Params { return brokenGroups()[0] }, func() api.Params { return brokenGroups()[2] }}
	for _, groupOf := range makers {
		g := groupOf()
		of := g
		if !group.Right(g) {
			of = eleven()
		}
		c, before := someClaim(of, 3, 2), someClaim(of, 3, 2)
		var alls [5][]uint64
		c.Targets, alls[0] = withRoom(c.Targets)
		c.Bases[0], alls[1] = withRoom(c.Bases[0])
		w, allW := withRoom(drawn(1, 2))
		d, allD := withRoom(drawn(2, 2))
		x, allX := withRoom(elements(of, 5, 3))
		alls[2], alls[3], alls[4] = allW, allD, allX
		var copies [5][]uint64
		for i, all := range alls {
			copies[i] = slices.Clone(all)
		}
		Prove(g, "l", c, w, d)
		Accept(g, "l", c, api.Proof{Commit: x, Answers: d})
		callAll(g, "l", c, w)
		claimsOf(g, w[0], d[1])
		for i, all := range alls {
			if !slices.Equal(all, copies[i]) {
				t.Errorf("P %d: list %d has become %d", g.P, i, all)
			}
		}
		if !reflect.DeepEqual(c, before) || !reflect.DeepEqual(g, groupOf()) {
			t.Errorf("P %d: the claim or the group was changed", g.P)
		}
	}
}

// listsOf are all lists of numbers of a claim.
func listsOf(c api.Claim) [][]uint64 {
	return append([][]uint64{c.Targets}, c.Bases...)
}

// spoil writes to all that belongs to the list, also behind its end.
func spoil(l []uint64) {
	l = l[:cap(l)]
	for i := range l {
		l[i] = 12345
	}
}

// TestClaimsAreNewMemory: who writes to a list of a claim changes no other list of
// it, and none that is answered next.
func TestClaimsAreNewMemory(t *testing.T) {
	for _, g := range groups() {
		for i, want := range claimsOf(g, g.G, g.H) {
			for j := range listsOf(want) {
				got := claimsOf(g, g.G, g.H)[i]
				spoil(listsOf(got)[j])
				for k, l := range listsOf(got) {
					if k != j && !slices.Equal(l, listsOf(want)[k]) {
						t.Errorf("P %d, claim %d: writing to list %d changed list %d", g.P, i, j, k)
					}
				}
				if next := claimsOf(g, g.G, g.H)[i]; !reflect.DeepEqual(next, want) {
					t.Errorf("P %d: claim %d has become %d", g.P, i, next)
				}
			}
		}
	}
}

// TestProofsAreNewMemory: also where a list of the proof is like one that was
// handed in.
func TestProofsAreNewMemory(t *testing.T) {
	for _, g := range groups() {
		// Of exponents of 0 the answers are the draws, and of draws like the
		// exponents of the targets the commit is they.
		for _, w := range [][]uint64{{0, 0}, {1, 2}} {
			d := []uint64{1, 2}
			c, kept := heldClaim(g, 2, d), heldClaim(g, 2, d)
			first, _ := Prove(g, "l", c, w, d)
			want := wantProof(g, "l", c, w, d)
			other, _ := Prove(g, "l", c, w, d)
			spoil(other.Commit)
			if !slices.Equal(other.Answers, want.Answers) {
				t.Errorf("P %d: the proof's lists share memory", g.P)
			}
			spoil(other.Answers)
			if !sameProof(first, want) || !slices.Equal(d, []uint64{1, 2}) || !reflect.DeepEqual(c, kept) {
				t.Errorf("P %d: writing to a proof changed %d, %d or %d", g.P, first, d, c)
			}
		}
	}
}

// TestOneAnswer: calls ahead change nothing.
func TestOneAnswer(t *testing.T) {
	g := small()
	w, d := []uint64{500, 77}, []uint64{8, 9}
	c := heldClaim(g, 3, w)
	first, _ := Prove(g, "l", c, w, d)
	for _, other := range slices.Concat(groups(), brokenGroups()) {
		callAll(other, "m", c, w)
		claimsOf(other, 4, 9)
		if got, ok := Prove(g, "l", c, w, d); !ok || !sameProof(got, first) || !Accept(g, "l", c, first) {
			t.Fatalf("%d has become %d", first, got)
		}
	}
}
