package shuffle

import (
	"math"
	"reflect"
	"slices"
	"strings"
	"testing"

	"spandrel/api"
)

// brokenGroups aren't right, in ways that may break a call.
func brokenGroups() []api.Params {
	l := []api.Params{
		{}, {P: greatest, Q: greatest, G: greatest, H: greatest}, {P: 15, Q: 7, G: 3, H: 5}, {P: 12, Q: 6, G: 6, H: 4},
		{P: 15, Q: 4, G: 2, H: 8}, {P: 11, Q: 10, G: 2, H: 3}, {P: 11, Q: 5, G: 0, H: 9}, {P: 11, Q: 5, G: 4, H: 0}, {P: 11, Q: 5, G: 11, H: 22},
	}
	edges := []uint64{0, 1, 2, 3, 4, 11, 1<<62 - 1, api.MostMod, api.MostMod + 1, 1 << 63, greatest - 1, greatest}
	for _, p := range edges {
		for _, q := range edges {
			l = append(l,
				api.Params{P: p, Q: q, G: 4, H: 9, Rows: eleven().Rows},
				api.Params{P: p, Q: q, G: greatest, H: 0, Rows: []api.Row{{}, row(greatest, greatest, greatest)}},
			)
		}
	}
	return l
}

// given is what calls are handed.
type given struct {
	y       uint64
	in, out []api.Box
	order   []int
	talk    api.Talk
	draws   api.Draws
	shown   api.Shown
}

// callAll makes each call, and those of what was answered.
func callAll(g api.Params, l given) {
	Mix(g, l.y, l.in, l.order, l.draws.Rho)
	talk := l.talk
	talk.A = First(g, l.order, l.draws.R)
	talk.B = Second(g, l.order, talk.X, l.draws.S)
	talk.P = Third(g, l.order, talk, l.draws)
	Third(g, l.order, l.talk, l.draws)
	Exponents(g, l.order, l.talk, l.draws)
	Claim(g, l.y, l.in, l.out, talk)
	Claim(g, l.y, l.in, l.out, l.talk)
	out, shown, _ := Prove(g, "l", l.y, l.in, l.order, l.draws)
	Accept(g, "l", l.y, l.in, out, shown)
	Accept(g, "l", l.y, l.in, l.out, l.shown)
}

// givenOf is a batch of n, all of the numbers a and b.
func givenOf(n int, order []int, a, b uint64) given {
	box := api.Box{{U: a, V: b}, {U: b, V: a}, {U: a, V: a}}
	l, m := slices.Repeat([]uint64{a}, n), slices.Repeat([]uint64{b}, n)
	proof := api.Proof{Commit: slices.Repeat([]uint64{a}, 4*n+6), Answers: slices.Repeat([]uint64{b}, 7*n+3)}
	return given{
		y: a, in: slices.Repeat([]api.Box{box}, n), out: slices.Repeat([]api.Box{box}, n), order: order,
		talk:  api.Talk{A: l, X: a, B: m, Y: b, Z: a, P: l},
		draws: drawsOf(n, b),
		shown: api.Shown{A: l, B: m, P: l, Proof: proof},
	}
}

func ends(calls func()) (ok bool) {
	defer func() { ok = recover() == nil }()
	calls()
	return
}

// TestEveryCallEnds: of groups that aren't right, and of numbers that are no
// elements of a right one, something is answered.
func TestEveryCallEnds(t *testing.T) {
	for _, g := range slices.Concat(brokenGroups(), groups()) {
		numbers := []uint64{0, 1, 2, g.P - 1, g.P, g.Q, 1 << 62, greatest}
		for i, a := range numbers {
			for _, b := range numbers {
				n := 1 + i%3
				if !ends(func() { callAll(g, givenOf(n, someOrder(n), a, b)) }) {
					t.Fatalf("P %d, Q %d: a call of %d boxes of %d and %d panics", g.P, g.Q, n, a, b)
				}
			}
		}
		if !ends(func() { callAll(g, givenOf(api.MaxBatch, someOrder(api.MaxBatch), 1, 1)) }) {
			t.Fatalf("P %d, Q %d: a call of MaxBatch boxes panics", g.P, g.Q)
		}
	}
}

// TestBrokenGroupsAreProvedIn: of some, else the test above says little; and where
// nothing is proved, nothing is answered.
func TestBrokenGroupsAreProvedIn(t *testing.T) {
	mixed, proved := 0, 0
	for _, g := range brokenGroups() {
		l := givenOf(2, []int{1, 0}, 1, 1)
		if _, ok := Mix(g, l.y, l.in, l.order, l.draws.Rho); ok {
			mixed++
		}
		out, s, ok := Prove(g, "l", l.y, l.in, l.order, l.draws)
		if ok {
			proved++
			continue
		}
		if out != nil || s.A != nil || s.B != nil || s.P != nil || s.Proof.Commit != nil || s.Proof.Answers != nil {
			t.Errorf("P %d, Q %d: nothing is proved, and %d, %d answered", g.P, g.Q, out, s)
		}
		if c, ok := Claim(g, l.y, l.in, l.out, l.talk); !ok && (c.Targets != nil || c.Bases != nil) {
			t.Errorf("P %d, Q %d: nothing is claimed, and %d answered", g.P, g.Q, c)
		}
	}
	if proved == 0 || mixed == proved {
		t.Errorf("in %d of them there is a batch, in %d it is proved", mixed, proved)
	}
}

// TestEveryCallEndsOfAnyLengths: of orders that are none, and of lists that have
// nothing to do with each other.
func TestEveryCallEndsOfAnyLengths(t *testing.T) {
	orders := slices.Concat(noOrders(1), noOrders(3), [][]int{{0}, {1, 0}, someOrder(9), {math.MinInt}, {math.MaxInt}})
	for _, g := range []api.Params{eleven(), largest(), {}, brokenGroups()[1], brokenGroups()[4]} {
		for i, order := range orders {
			for n := range 4 {
				l := givenOf(n, order, 1, 4)
				if !ends(func() { callAll(g, l) }) {
					t.Fatalf("P %d, Q %d: a call by %d of %d boxes panics", g.P, g.Q, order, n)
				}
				// Each list from another count, in turn.
				other := givenOf((n+1+i%3)%4, order, 1, 4)
				for _, mixed := range []given{
					{l.y, l.in, other.out, order, other.talk, l.draws, other.shown},
					{l.y, l.in, l.out, order, other.talk, other.draws, l.shown},
					{l.y, other.in, l.out, order, api.Talk{A: l.talk.A, B: other.talk.B, P: l.talk.P}, api.Draws{Rho: l.draws.Rho, R: other.draws.R, S: l.draws.S, T: other.draws.T}, l.shown},
					{l.y, l.in, l.out, order, api.Talk{A: other.talk.A, B: l.talk.B}, api.Draws{Rho: other.draws.Rho, T: l.draws.T}, api.Shown{A: l.talk.A, P: l.talk.P, Proof: other.shown.Proof}},
				} {
					if !ends(func() { callAll(g, mixed) }) {
						t.Fatalf("P %d, Q %d: a call of %d panics", g.P, g.Q, mixed)
					}
				}
			}
		}
	}
}

// TestNothingAtAll: every argument is its zero value.
func TestNothingAtAll(t *testing.T) {
	for _, g := range []api.Params{{}, eleven()} {
		callAll(g, given{})
		if Accept(g, "", 0, nil, nil, api.Shown{}) {
			t.Errorf("P %d: nothing is accepted", g.P)
		}
	}
}

// TestLongLists: of lists that are far too long nothing is mixed, claimed or accepted.
func TestLongLists(t *testing.T) {
	g := largest()
	n := 1 << 14
	order := make([]int, n)
	for i := range order {
		order[i] = n - 1 - i
	}
	l := givenOf(n, order, g.G, 9)
	if out, ok := Mix(g, g.G, l.in, order, l.draws.Rho); out != nil || ok {
		t.Error("a long batch is mixed")
	}
	if _, ok := Claim(g, g.G, l.in, l.out, l.talk); ok {
		t.Error("a long batch is claimed")
	}
	if Accept(g, "l", g.G, l.in, l.out, l.shown) {
		t.Error("a long batch is accepted")
	}
	in := someBoxes(g, 2)
	out, s := checkProved(t, g, "l", g.G, in, []int{1, 0}, someDraws(2))
	for list := range listsOf(&s) {
		changed := copyShown(s)
		*listsOf(&changed)[list] = slices.Repeat([]uint64{g.G}, n)
		checkNever(t, "long", g, "l", g.G, in, out, changed)
	}
	if got := First(g, order[:100], l.draws.R); got != nil {
		t.Error("a piece of an order is none")
	}
	callAll(g, l)
}

// copyGiven shares nothing with what it is a copy of.
func copyGiven(l given) given {
	return given{
		y: l.y, in: slices.Clone(l.in), out: slices.Clone(l.out), order: slices.Clone(l.order),
		talk:  api.Talk{A: slices.Clone(l.talk.A), X: l.talk.X, B: slices.Clone(l.talk.B), Y: l.talk.Y, Z: l.talk.Z, P: slices.Clone(l.talk.P)},
		draws: api.Draws{Rho: slices.Clone(l.draws.Rho), R: slices.Clone(l.draws.R), S: slices.Clone(l.draws.S), T: slices.Clone(l.draws.T), D: slices.Clone(l.draws.D)},
		shown: copyShown(l.shown),
	}
}

// withRoom gives each list room behind it, which is not to be written to; whole is
// what lies there.
func withRoom(l given) (roomy, whole given) {
	whole = copyGiven(l)
	whole.in, whole.out = append(whole.in, api.Box{}), append(whole.out, api.Box{})
	whole.order, whole.draws.Rho = append(whole.order, 7), append(whole.draws.Rho, [api.Width]uint64{})
	for _, list := range numberLists(&whole) {
		*list = append(*list, 4, 9)
	}
	roomy = whole
	roomy.in, roomy.out = whole.in[:len(l.in)], whole.out[:len(l.out)]
	roomy.order, roomy.draws.Rho = whole.order[:len(l.order)], whole.draws.Rho[:len(l.draws.Rho)]
	for i, list := range numberLists(&roomy) {
		*list = (*list)[:len(*numberLists(&l)[i])]
	}
	return roomy, whole
}

func numberLists(l *given) []*[]uint64 {
	return append(listsOf(&l.shown), &l.talk.A, &l.talk.B, &l.talk.P, &l.draws.R, &l.draws.S, &l.draws.T, &l.draws.D)
}

// realGiven is of one who mixed, and so goes through all calls.
func realGiven(g api.Params, n int) given {
	l := given{y: someKey(g), in: someBoxes(g, n), order: someOrder(n), draws: someDraws(n)}
	l.out, l.shown = wantProved(g, "l", l.y, l.in, l.order, l.draws)
	l.talk = wantTalk(g, "l", l.y, l.in, l.out, l.order, l.draws)
	return l
}

func TestWhatIsHandedInStays(t *testing.T) {
	makers := []func() api.Params{eleven, small, largest, func() api.Params { return brokenGroups()[0] }, func() api.Params { return brokenGroups()[4] }}
	for _, groupOf := range makers {
		g := groupOf()
		of := g
		if g.Rows == nil {
			of = eleven()
		}
		for _, n := range []int{1, 3, api.MaxBatch} {
			roomy, whole := withRoom(realGiven(of, n))
			kept := copyGiven(whole)
			callAll(g, roomy)
			if !reflect.DeepEqual(whole, kept) || !reflect.DeepEqual(g, groupOf()) {
				t.Errorf("P %d: %d boxes, or what was handed in with them, were changed", g.P, n)
			}
		}
	}
}

// spoil writes to all that belongs to the list, also behind its end.
func spoil(l []uint64) {
	l = l[:cap(l)]
	for i := range l {
		l[i] = 12345
	}
}

// TestClaimsAreNewMemory: who writes to a list of a claim changes no other list of
// it, none that is answered next, and nothing that was handed in.
func TestClaimsAreNewMemory(t *testing.T) {
	for _, g := range groups() {
		l := realGiven(g, 3)
		kept := copyGiven(l)
		want := wantClaim(g, l.y, l.in, l.out, l.talk)
		for j := range len(want.Bases) + 1 {
			got, _ := Claim(g, l.y, l.in, l.out, l.talk)
			lists := append([][]uint64{got.Targets}, got.Bases...)
			spoil(lists[j])
			for k, list := range append([][]uint64{want.Targets}, want.Bases...) {
				if k != j && !slices.Equal(lists[k], list) {
					t.Errorf("P %d: writing to list %d changed list %d", g.P, j, k)
				}
			}
			if next, _ := Claim(g, l.y, l.in, l.out, l.talk); !sameClaim(next, want) || !reflect.DeepEqual(l, kept) {
				t.Errorf("P %d: writing to list %d changed what was handed in or is answered next", g.P, j)
			}
		}
	}
}

// TestListsAreNewMemory: also where they are like what was handed in, and behind
// their ends.
func TestListsAreNewMemory(t *testing.T) {
	for _, g := range groups() {
		for _, n := range []int{1, 2, api.MaxBatch} {
			l := realGiven(g, n)
			l.draws.Rho = make([][api.Width]uint64, n) // what comes out is what came in
			l.order = ordersOf(n)[0]
			kept := copyGiven(l)
			spoil(First(g, l.order, l.draws.R))
			spoil(Second(g, l.order, 5, l.draws.S))
			spoil(Third(g, l.order, l.talk, l.draws))
			spoil(Exponents(g, l.order, l.talk, l.draws))
			out, _ := Mix(g, l.y, l.in, l.order, l.draws.Rho)
			clear(out[:cap(out)])
			if !reflect.DeepEqual(l, kept) {
				t.Errorf("P %d: writing to what is answered of %d boxes changed what was handed in", g.P, n)
			}
			checkLists(t, g, l.order, l.draws, 6, 7, 8)
		}
	}
}

// TestProofsAreNewMemory: who writes to one list of what is proved changes no other.
func TestProofsAreNewMemory(t *testing.T) {
	for _, g := range groups() {
		for _, n := range []int{1, 3} {
			l := realGiven(g, n)
			kept := copyGiven(l)
			for list := range listsOf(&l.shown) {
				out, s, _ := Prove(g, "l", l.y, l.in, l.order, l.draws)
				spoil(*listsOf(&s)[list])
				for i, other := range listsOf(&s) {
					if i != list && !slices.Equal(*other, *listsOf(&kept.shown)[i]) {
						t.Errorf("P %d: writing to list %d changed list %d", g.P, list, i)
					}
				}
				if !slices.Equal(out, kept.out) || !reflect.DeepEqual(l, kept) {
					t.Errorf("P %d: writing to list %d changed the batch, or what was handed in", g.P, list)
				}
			}
			out, s, _ := Prove(g, "l", l.y, l.in, l.order, l.draws)
			clear(out[:cap(out)])
			if !sameShown(s, kept.shown) || !reflect.DeepEqual(l, kept) {
				t.Errorf("P %d: writing to the batch changed the proof, or what was handed in", g.P)
			}
		}
	}
}

// TestOneAnswer: calls ahead change nothing.
func TestOneAnswer(t *testing.T) {
	g := small()
	l := realGiven(g, 2)
	for i, other := range slices.Concat(groups(), brokenGroups()) {
		callAll(other, givenOf(1+i%4, someOrder(1+i%4), 4, 9))
		out, s, ok := Prove(g, "l", l.y, l.in, l.order, l.draws)
		if !ok || !slices.Equal(out, l.out) || !sameShown(s, l.shown) || !Accept(g, "l", l.y, l.in, l.out, l.shown) {
			t.Fatalf("%d has become %d", l.shown, s)
		}
	}
}

// TestALongLabel: one of a million bytes, and one that is shorter by a byte.
func TestALongLabel(t *testing.T) {
	g := largest()
	label := strings.Repeat("label/\x00", 150000)
	in := someBoxes(g, 1)
	out, s, ok := Prove(g, label, g.H, in, []int{0}, someDraws(1))
	if !ok || !Accept(g, label, g.H, in, out, s) || Accept(g, label[1:], g.H, in, out, s) {
		t.Error("it isn't accepted by just its label")
	}
}
