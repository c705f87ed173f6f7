package shuffle

import (
	"crypto/sha256"
	"fmt"
	"slices"
	"strings"
	"testing"

	"spandrel/api"
	"spandrel/gamal"
	"spandrel/linear"
)

// checkProved holds Prove against the chapter's words, and Accept of what it made;
// it answers both.
func checkProved(t *testing.T, g api.Params, label string, y uint64, in []api.Box, order []int, d api.Draws) ([]api.Box, api.Shown) {
	t.Helper()
	out, s, ok := Prove(g, label, y, in, order, d)
	wantOut, wantS := wantProved(g, label, y, in, order, d)
	if !ok || !slices.Equal(out, wantOut) || !sameShown(s, wantS) {
		t.Fatalf("P %d, %q: Prove of %d for %d by %d, %d is %d, %d and %t, want %d, %d", g.P, label, in, y, order, d, out, s, ok, wantOut, wantS)
	}
	if !Accept(g, label, y, in, out, s) {
		t.Errorf("P %d, %q: what is proved of %d for %d by %d, %d isn't accepted", g.P, label, in, y, order, d)
	}
	return out, s
}

// wantAccept reckons all anew out of the words of chapters 6, 7 and 8.
func wantAccept(g api.Params, label string, y uint64, in, out []api.Box, s api.Shown) bool {
	n := len(in)
	if n < 1 || n > api.MaxBatch || len(out) != n || len(s.A) != n || len(s.B) != n || len(s.P) != n {
		return false
	}
	all := slices.Concat([]uint64{y}, s.A, s.B, s.P, s.Proof.Commit)
	for _, x := range numbersIn(slices.Concat(in, out)) {
		all = append(all, *x)
	}
	if slices.ContainsFunc(all, func(x uint64) bool { return !wantElement(g, x) }) {
		return false
	}
	t := api.Talk{A: s.A, X: wantX(g, label, y, in, out, s.A), B: s.B, P: s.P}
	t.Y, t.Z = wantY(g, label, y, in, out, s.A, s.B), wantZ(g, label, y, in, out, s.A, s.B)
	c := wantClaim(g, y, in, out, t)
	if s.P[0] != wantD(g, t, 0) || len(s.Proof.Commit) != len(c.Targets) || len(s.Proof.Answers) != len(c.Bases[0]) {
		return false
	}
	e := wantAsked(g, label, c, s.Proof.Commit)
	for j, x := range wantImage(g, c, s.Proof.Answers) {
		if x != wantProduct(g, s.Proof.Commit[j], wantPower(g, c.Targets[j], e)) {
			return false
		}
	}
	return true
}

// checkRefused: so what is told isn't accepted, but by accident in a small group.
func checkRefused(t *testing.T, name string, g api.Params, label string, y uint64, in, out []api.Box, s api.Shown) {
	t.Helper()
	got := Accept(g, label, y, in, out, s)
	if want := wantAccept(g, label, y, in, out, s); got != want || isVast(g) && got {
		t.Errorf("P %d, %s: Accept by %q for %d of %d, %d, %d is %t, want %t", g.P, name, label, y, in, out, s, got, want)
	}
}

// checkNever: what isn't of the form isn't accepted in any group.
func checkNever(t *testing.T, name string, g api.Params, label string, y uint64, in, out []api.Box, s api.Shown) {
	t.Helper()
	if Accept(g, label, y, in, out, s) {
		t.Errorf("P %d, %s: Accept by %q for %d of %d, %d, %d", g.P, name, label, y, in, out, s)
	}
}

func checkNotProved(t *testing.T, name string, g api.Params, y uint64, in []api.Box, order []int, d api.Draws) {
	t.Helper()
	out, s, ok := Prove(g, "l", y, in, order, d)
	if ok || out != nil || s.A != nil || s.B != nil || s.P != nil || s.Proof.Commit != nil || s.Proof.Answers != nil {
		t.Errorf("P %d, %s: Prove of %d for %d by %d, %d is %d, %d and %t", g.P, name, in, y, order, d, out, s, ok)
	}
}

// TestProofsOfAnotherProgram holds them against numbers that were worked out by a
// program in another language, out of the chapters' words: two are told whole.
func TestProofsOfAnotherProgram(t *testing.T) {
	in := []api.Box{{{U: 4, V: 9}, {U: 16, V: 36}, {U: 64, V: 144}}, {{U: 25, V: 49}, {U: 81, V: 121}, {U: 169, V: 256}}}
	one := api.Draws{Rho: [][api.Width]uint64{{5, 6, 7}}, R: []uint64{2}, S: []uint64{3}, T: []uint64{4}, D: counting(10)}
	two := api.Draws{Rho: [][api.Width]uint64{{5, 6, 7}, {8, 9, 10}}, R: []uint64{2, 11}, S: []uint64{3, 12}, T: []uint64{4, 13}, D: counting(17)}
	for _, c := range []struct {
		order []int
		d     api.Draws
		out   []api.Box
		s     api.Shown
	}{
		{[]int{0}, one, []api.Box{{{U: 42, V: 1499}, {U: 672, V: 667}, {U: 617, V: 121}}},
			api.Shown{A: []uint64{324}, B: []uint64{550}, P: []uint64{978}, Proof: api.Proof{
				Commit:  []uint64{324, 315, 813, 1276, 1989, 1898, 1724, 1894, 1798, 130},
				Answers: []uint64{666, 319, 867, 986, 193, 393, 394, 753, 903, 40}}}},
		{[]int{1, 0}, two, []api.Box{{{U: 1276, V: 1855}, {U: 1375, V: 609}, {U: 14, V: 1116}}, {{U: 661, V: 121}, {U: 441, V: 1663}, {U: 975, V: 1028}}},
			api.Shown{A: []uint64{1296, 1304}, B: []uint64{633, 418}, P: []uint64{117, 1622}, Proof: api.Proof{
				Commit:  []uint64{889, 1599, 1236, 1929, 624, 167, 71, 495, 1400, 1943, 1623, 1114, 443, 1460},
				Answers: []uint64{763, 383, 765, 143, 608, 68, 137, 528, 907, 961, 979, 76, 914, 356, 556, 905, 241}}}},
	} {
		out, s, ok := Prove(small(), "a", 16, in[:len(c.order)], c.order, c.d)
		if !ok || !slices.Equal(out, c.out) || !sameShown(s, c.s) {
			t.Errorf("by %d it is %d, %d and %t, want %d, %d", c.order, out, s, ok, c.out, c.s)
		}
		if !Accept(small(), "a", 16, in[:len(c.order)], c.out, c.s) {
			t.Errorf("by %d %d isn't accepted", c.order, c.s)
		}
	}
}

// counting are the numbers from 1 to n.
func counting(n int) []uint64 {
	var l []uint64
	for i := range n {
		l = append(l, uint64(i+1))
	}
	return l
}

// TestSumsOfAnotherProgram: of each count of boxes the sum of all numbers that are
// answered, the first half of it, as a program in another language worked it out.
func TestSumsOfAnotherProgram(t *testing.T) {
	sums := [][]string{
		{"b10a6f66fb78b017d31f3dca02e49677", "9f4cff28dc0321dc7fe508cf0fa87818", "86bb2417c62d4f8db65c1cdb7b6b0d93", "c45bde231786a7477951c67878fbc98f",
			"5e7e79d2c76d2d5eb96bc1136da417bd", "80c80cb946c4d15cb8d2adfb68b4a82d", "e46b04d5e91fcd8fc4f1c7905d26db36", "ecc53f62dd6561dc4c086af2652cbd27"},
		{"a1c87339ede14cf42c1168c221e506a9", "ac7b51101503c8a537a83f40c4e94e70", "7a896fce8256d6ad6b1040e92aba5088", "b0363b9fa8d2d56496bb6f56a8f06d81",
			"b6a80c54e2f2589b408c09ce05522bd3", "22ec53284a989c7fe775385b0689bfd5", "ffc7f34040df247f1457ddbd340c6b84", "440e64babdb15835187c07ff8df1db2e"},
		{"df60bea79fac191e65427d176d8b04d8", "82d49b24ec92f3678db4ae9604154b69", "5dd604909f7019bcf7f28a6a9423e851", "2a5ccafdc3f203bd7f37c91bac13681c",
			"be392ece7e6f6f9bac0d5de16bb2d53a", "29fcf1eef4957689faa84cdd911bd8b1", "c92245f0e78d13ba3132ba28be4c4c01", "b1483040454006d554c1ffbd0f195333"},
	}
	for i, g := range groups() {
		for n := 1; n <= api.MaxBatch; n++ {
			out, s, ok := Prove(g, "round 1/mix", someKey(g), someBoxes(g, n), someOrder(n), someDraws(n))
			all := boxBytes(out)
			for _, l := range listsOf(&s) {
				all = append(all, wantBytes(*l...)...)
			}
			if got := fmt.Sprintf("%x", sha256.Sum256(all)); !ok || got[:32] != sums[i][n-1] {
				t.Errorf("P %d: of %d boxes the sum is %s and %t, want %s", g.P, n, got[:32], ok, sums[i][n-1])
			}
		}
	}
}

// TestProvedIsAccepted: of 1 up to MaxBatch boxes.
func TestProvedIsAccepted(t *testing.T) {
	for _, g := range groups() {
		for n := 1; n <= api.MaxBatch; n++ {
			for _, order := range ordersOf(n) {
				for _, y := range []uint64{1, g.H, someKey(g)} {
					checkProved(t, g, "round 1", y, someBoxes(g, n), order, someDraws(n))
				}
			}
		}
	}
}

func TestProvedByAllOrders(t *testing.T) {
	for _, g := range []api.Params{eleven(), largest()} {
		for n := 1; n <= 4; n++ {
			for _, order := range allOrders(n) {
				checkProved(t, g, "all", someKey(g), someBoxes(g, n), order, someDraws(n))
			}
		}
	}
}

// TestProvedByAllLabels: the challenges are reckoned anew of each of them.
func TestProvedByAllLabels(t *testing.T) {
	for _, g := range groups() {
		for _, label := range labels() {
			for _, n := range []int{1, 2} {
				checkProved(t, g, label, someKey(g), someBoxes(g, n), someOrder(n), someDraws(n))
			}
		}
	}
	label := strings.Repeat("label/", 40000)
	checkProved(t, largest(), label, 9, someBoxes(largest(), 2), []int{1, 0}, someDraws(2))
}

// TestProvedByDrawsAboutQ: of 0, of Q and above, and of the greatest number.
func TestProvedByDrawsAboutQ(t *testing.T) {
	for _, g := range groups() {
		y, in, order := someKey(g), someBoxes(g, 3), someOrder(3)
		for i, x := range numbersAbout(g) {
			out, s := checkProved(t, g, "e", y, in, order, drawsOf(3, x))
			sameOut, sameS := checkProved(t, g, "e", y, in, order, drawsOf(3, x%g.Q))
			if !slices.Equal(out, sameOut) || !sameShown(s, sameS) {
				t.Errorf("P %d: by %d it isn't as modulo Q", g.P, x)
			}
			d := someDraws(3)
			d.Rho[i%3][(i+1)%3], d.R[i%3], d.S[(i+1)%3], d.T[(i+2)%3], d.D[i] = x, x, x, x, x
			checkProved(t, g, "e", y, in, order, d)
		}
	}
}

// TestTheFirstDrawOfTIsAskedAndPlaysNoPart.
func TestTheFirstDrawOfTIsAskedAndPlaysNoPart(t *testing.T) {
	g := largest()
	d := someDraws(2)
	out, s := checkProved(t, g, "t", g.H, someBoxes(g, 2), []int{1, 0}, d)
	d.T[0]++
	sameOut, sameS := checkProved(t, g, "t", g.H, someBoxes(g, 2), []int{1, 0}, d)
	if !slices.Equal(out, sameOut) || !sameShown(s, sameS) {
		t.Error("by another T of 0 it is another proof")
	}
}

// TestTheChallengesThemselves: with one box and draws of 0 B is G to the X, and P is
// G to the Y + X - Z.
func TestTheChallengesThemselves(t *testing.T) {
	for _, g := range groups() {
		for _, label := range labels() {
			y, in := someKey(g), someBoxes(g, 1)
			out, s, _ := Prove(g, label, y, in, []int{0}, drawsOf(1, 0))
			x := wantX(g, label, y, in, out, []uint64{g.G})
			b := wantPower(g, g.G, x)
			why, z := wantY(g, label, y, in, out, []uint64{g.G}, []uint64{b}), wantZ(g, label, y, in, out, []uint64{g.G}, []uint64{b})
			p := wantPower(g, g.G, wantFactor(g, api.Talk{X: x, Y: why, Z: z}, 1))
			if s.A[0] != g.G || s.B[0] != b || s.P[0] != p {
				t.Errorf("P %d, %q: A, B, P are %d, %d, %d, want %d, %d, %d", g.P, label, s.A, s.B, s.P, g.G, b, p)
			}
			// Answers of draws of 0 are the exponents, times the last challenge; a is 1.
			e := s.Proof.Answers[0]
			if talk := (api.Talk{A: s.A, X: x, B: s.B, Y: why, Z: z, P: s.P}); e != wantAsked(g, label, wantClaim(g, y, in, out, talk), slices.Repeat([]uint64{1}, 10)) {
				t.Errorf("P %d, %q: the challenge of layer 7 is %d", g.P, label, e)
			}
		}
	}
}

// TestXHangsOnAll: whatever is another one, X is; it is read out of B.
func TestXHangsOnAll(t *testing.T) {
	g := largest()
	seen := []uint64{}
	see := func(g api.Params, label string, y uint64, in []api.Box, d api.Draws) {
		_, s, ok := Prove(g, label, y, in, []int{0}, d)
		if !ok || slices.Contains(seen, s.B[0]) {
			t.Errorf("proof %d is %t, with a B of %d", len(seen), ok, s.B)
		}
		seen = append(seen, s.B[0])
	}
	see(g, "l", g.H, someBoxes(g, 1), drawsOf(1, 0))
	see(g, "m", g.H, someBoxes(g, 1), drawsOf(1, 0))
	see(g, "l", g.G, someBoxes(g, 1), drawsOf(1, 0))
	other := g
	other.H = wantPower(g, 9, 7)
	see(other, "l", g.H, someBoxes(g, 1), drawsOf(1, 0))
	for place := range 6 {
		in := someBoxes(g, 1)
		x := numbersIn(in)[place]
		*x = wantProduct(g, *x, g.G)
		see(g, "l", g.H, in, drawsOf(1, 0))
	}
	d := drawsOf(1, 0)
	d.Rho[0][2] = 1 // another out
	see(g, "l", g.H, someBoxes(g, 1), d)
	d = drawsOf(1, 0)
	d.R[0] = 1 // another A
	see(g, "l", g.H, someBoxes(g, 1), d)
}

func TestProveByOtherCounts(t *testing.T) {
	for _, g := range groups() {
		for n := 1; n <= api.MaxBatch; n++ {
			in, order := someBoxes(g, n), someOrder(n)
			for _, m := range []int{0, n - 1, n + 1, 2 * n, 100} {
				if m == n {
					continue
				}
				ofRho, ofR, ofS, ofT := someDraws(n), someDraws(n), someDraws(n), someDraws(n)
				ofRho.Rho, ofR.R, ofS.S, ofT.T = someRho(m), drawn(1, m), drawn(1, m), drawn(1, m)
				for i, d := range []api.Draws{ofRho, ofR, ofS, ofT} {
					checkNotProved(t, fmt.Sprint(m, " of list ", i), g, g.H, in, order, d)
				}
			}
			for _, m := range []int{0, 1, n, 7 * n, 7*n + api.Width - 1, 7*n + api.Width + 1, 7*n + 10, 64, 65} {
				d := someDraws(n)
				d.D = drawn(1, m)
				checkNotProved(t, fmt.Sprint(m, " of D"), g, g.H, in, order, d)
			}
			checkNotProved(t, "no draws", g, g.H, in, order, api.Draws{})
		}
	}
}

func TestProveWhereMixIsFalse(t *testing.T) {
	for _, g := range groups() {
		for _, n := range []int{1, 2, 3, api.MaxBatch} {
			for _, order := range noOrders(n) {
				checkNotProved(t, "order", g, g.H, someBoxes(g, n), order, someDraws(n))
			}
			for _, x := range strangers(g) {
				for place := range numbersIn(someBoxes(g, n)) {
					in := someBoxes(g, n)
					*numbersIn(in)[place] = x
					checkNotProved(t, "in", g, g.H, in, someOrder(n), someDraws(n))
				}
				checkNotProved(t, "key", g, x, someBoxes(g, n), someOrder(n), someDraws(n))
			}
		}
		nine := api.MaxBatch + 1
		checkNotProved(t, "none", g, g.H, nil, nil, api.Draws{})
		checkNotProved(t, "none", g, g.H, []api.Box{}, []int{}, drawsOf(0, 1))
		checkNotProved(t, "nine", g, g.H, someBoxes(g, nine), someOrder(nine), someDraws(nine))
	}
}

func TestAnotherLabel(t *testing.T) {
	for _, g := range groups() {
		y, in := someKey(g), someBoxes(g, 2)
		out, s := checkProved(t, g, "a", y, in, []int{1, 0}, someDraws(2))
		for _, label := range labels() {
			if label != "a" {
				checkRefused(t, "label", g, label, y, in, out, s)
			}
		}
	}
}

// TestAnotherKey: also one for which the proof would be right, were it not in the
// challenges: where all draws are 0, nothing was sealed for any.
func TestAnotherKey(t *testing.T) {
	for _, g := range groups() {
		y, in := someKey(g), someBoxes(g, 2)
		for _, d := range []api.Draws{someDraws(2), drawsOf(2, 0)} {
			out, s := checkProved(t, g, "k", y, in, []int{1, 0}, d)
			for _, other := range []uint64{1, g.G, wantProduct(g, y, g.G), wantPower(g, y, 2)} {
				if other != y {
					checkRefused(t, "key", g, "k", other, in, out, s)
				}
			}
			for _, other := range append(strangers(g), y+g.P, y+2*g.P, g.P-y) {
				checkNever(t, "key", g, "k", other, in, out, s)
			}
		}
	}
}

// TestAnotherGroup: one that is like but for its G or H.
func TestAnotherGroup(t *testing.T) {
	for _, g := range groups() {
		y, in := someKey(g), someBoxes(g, 2)
		out, s := checkProved(t, g, "g", y, in, []int{1, 0}, someDraws(2))
		for _, x := range []uint64{3, 5, 25} {
			ofG, ofH := g, g
			ofG.G, ofH.H = x, x
			if wantElement(g, x) && isVast(g) && (Accept(ofG, "g", y, in, out, s) || Accept(ofH, "g", y, in, out, s)) {
				t.Errorf("P %d: accepted with %d in place of G or H", g.P, x)
			}
		}
		other := g
		other.Rows = nil
		if !Accept(other, "g", y, in, out, s) {
			t.Errorf("P %d: the rows play no part", g.P)
		}
	}
}

// TestOtherBoxes: with another number at each place of in and of out, be it an
// element or none.
func TestOtherBoxes(t *testing.T) {
	for _, g := range groups() {
		for _, n := range []int{1, 2, 3} {
			y, in := someKey(g), someBoxes(g, n)
			out, s := checkProved(t, g, "b", y, in, someOrder(n), someDraws(n))
			for place := range numbersIn(in) {
				for _, by := range []uint64{g.G, g.H} {
					otherIn, otherOut := slices.Clone(in), slices.Clone(out)
					x, z := numbersIn(otherIn)[place], numbersIn(otherOut)[place]
					*x, *z = wantProduct(g, *x, by), wantProduct(g, *z, by)
					checkRefused(t, "in", g, "b", y, otherIn, out, s)
					checkRefused(t, "out", g, "b", y, in, otherOut, s)
				}
				for _, x := range append(strangers(g), *numbersIn(in)[place]+g.P, *numbersIn(out)[place]+g.P) {
					otherIn, otherOut := slices.Clone(in), slices.Clone(out)
					*numbersIn(otherIn)[place], *numbersIn(otherOut)[place] = x, x
					checkNever(t, "in", g, "b", y, otherIn, out, s)
					checkNever(t, "out", g, "b", y, in, otherOut, s)
				}
			}
			checkRefused(t, "both", g, "b", y, out, in, s)
		}
	}
}

// TestAnotherOrderThanProved: two boxes of out, or of in, are exchanged.
func TestAnotherOrderThanProved(t *testing.T) {
	for _, g := range groups() {
		for _, n := range []int{2, 3, api.MaxBatch} {
			y, in := someKey(g), someBoxes(g, n)
			out, s := checkProved(t, g, "o", y, in, someOrder(n), someDraws(n))
			for i := range n {
				for j := range i {
					otherIn, otherOut := slices.Clone(in), slices.Clone(out)
					otherIn[i], otherIn[j] = in[j], in[i]
					otherOut[i], otherOut[j] = out[j], out[i]
					// In the least group two boxes may be the same.
					if in[i] != in[j] {
						checkRefused(t, "in", g, "o", y, otherIn, out, s)
					}
					if out[i] != out[j] {
						checkRefused(t, "out", g, "o", y, in, otherOut, s)
					}
				}
			}
			for w := 1; w < api.Width; w++ {
				other := slices.Clone(out)
				other[0][0], other[0][w] = other[0][w], other[0][0]
				if other[0] != out[0] {
					checkRefused(t, "pairs", g, "o", y, in, other, s)
				}
			}
		}
	}
}

// TestOtherCountsOfBoxes: one more, one fewer, none.
func TestOtherCountsOfBoxes(t *testing.T) {
	for _, g := range groups() {
		for _, n := range []int{1, 2, api.MaxBatch} {
			y, in := someKey(g), someBoxes(g, n)
			out, s := checkProved(t, g, "c", y, in, someOrder(n), someDraws(n))
			for _, other := range [][]api.Box{nil, {}, someBoxes(g, n-1), someBoxes(g, n+1), someBoxes(g, 50)} {
				checkNever(t, "in", g, "c", y, other, out, s)
				checkNever(t, "out", g, "c", y, in, other, s)
				checkNever(t, "both", g, "c", y, other, other, s)
			}
		}
	}
}

// TestOtherNumbersOfTheProof: one of A, B, P, Commit or Answers is changed.
func TestOtherNumbersOfTheProof(t *testing.T) {
	for _, g := range groups() {
		for _, n := range []int{1, 2, 3} {
			y, in := someKey(g), someBoxes(g, n)
			out, s := checkProved(t, g, "n", y, in, someOrder(n), someDraws(n))
			for list := range listsOf(&s) {
				for place, x := range *listsOf(&s)[list] {
					isAnswer := list == 4
					others := []uint64{wantProduct(g, x, g.G), wantProduct(g, x, g.H), g.P - x, x + g.P, 0, g.P, greatest}
					if isAnswer {
						others = []uint64{x + 1, x + g.Q - 1, 0, 1, greatest}
					}
					for _, other := range others {
						changed := copyShown(s)
						(*listsOf(&changed)[list])[place] = other
						if isAnswer && other%g.Q == x {
							continue
						}
						checkRefused(t, fmt.Sprint("list ", list, " at ", place), g, "n", y, in, out, changed)
						if !isAnswer && !wantElement(g, other) {
							checkNever(t, fmt.Sprint("list ", list, " at ", place), g, "n", y, in, out, changed)
						}
					}
				}
			}
		}
	}
}

// TestOtherCountsOfTheProof: of A, B, P, Commit or Answers there is one more, one
// fewer, or none.
func TestOtherCountsOfTheProof(t *testing.T) {
	for _, g := range groups() {
		for _, n := range []int{1, 2, api.MaxBatch} {
			y, in := someKey(g), someBoxes(g, n)
			out, s := checkProved(t, g, "n", y, in, someOrder(n), someDraws(n))
			for list := range listsOf(&s) {
				l := *listsOf(&s)[list]
				for _, other := range [][]uint64{nil, {}, l[:len(l)-1], l[1:], slices.Concat(l, []uint64{1}), slices.Concat([]uint64{1}, l), slices.Concat(l, l)} {
					changed := copyShown(s)
					*listsOf(&changed)[list] = other
					checkNever(t, fmt.Sprint("list ", list, " of ", len(other)), g, "n", y, in, out, changed)
				}
			}
			checkNever(t, "nothing", g, "n", y, in, out, api.Shown{})
		}
	}
}

// TestListsOfOneAnother: two lists of the proof are exchanged, or two numbers.
func TestListsOfOneAnother(t *testing.T) {
	g := largest()
	in := someBoxes(g, 3)
	out, s := checkProved(t, g, "n", g.H, in, someOrder(3), someDraws(3))
	for i := range 3 {
		for j := range i {
			changed := copyShown(s)
			lists := listsOf(&changed)
			*lists[i], *lists[j] = *lists[j], *lists[i]
			checkRefused(t, "lists", g, "n", g.H, in, out, changed)
		}
	}
	for list := range listsOf(&s) {
		changed := copyShown(s)
		l := *listsOf(&changed)[list]
		l[0], l[1] = l[1], l[0]
		checkRefused(t, "numbers", g, "n", g.H, in, out, changed)
	}
}

// TestAnotherOnesProof: by another order, by other draws, of another batch.
func TestAnotherOnesProof(t *testing.T) {
	for _, g := range groups() {
		y, in := someKey(g), someBoxes(g, 3)
		other := someDraws(3)
		other.Rho[2][0]++
		out, s := checkProved(t, g, "p", y, in, []int{1, 2, 0}, someDraws(3))
		secondOut, second := checkProved(t, g, "p", y, in, []int{0, 2, 1}, someDraws(3))
		thirdOut, third := checkProved(t, g, "p", y, in, []int{1, 2, 0}, other)
		checkRefused(t, "order", g, "p", y, in, out, second)
		checkRefused(t, "order", g, "p", y, in, secondOut, s)
		checkRefused(t, "draws", g, "p", y, in, out, third)
		checkRefused(t, "draws", g, "p", y, in, thirdOut, s)
	}
}

// TestWhatWasNotMixedIsNotProved: who exchanges a box for one of their own, and does
// all else as the real code does, isn't accepted.
func TestWhatWasNotMixedIsNotProved(t *testing.T) {
	g := largest()
	y := gamal.Key(g, 77)
	in, order, d := someBoxes(g, 3), []int{2, 0, 1}, someDraws(3)
	for place := range 3 {
		out := wantMixed(g, y, in, order, d.Rho)
		out[place][1] = gamal.Seal(g, y, g.H, 5)
		talk := wantTalk(g, "l", y, in, out, order, d)
		c, ok := Claim(g, y, in, out, talk)
		commit, _ := linear.Image(g, c, d.D)
		answers, _ := linear.Answer(g, Exponents(g, order, talk, d), d.D, wantAsked(g, "l", c, commit))
		s := api.Shown{A: talk.A, B: talk.B, P: talk.P, Proof: api.Proof{Commit: commit, Answers: answers}}
		if !ok {
			t.Errorf("with another box at %d nothing is claimed", place)
		}
		checkRefused(t, "own box", g, "l", y, in, out, s)
	}
}

// TestATalkOfOtherChallengesIsNoProof: of challenges that somebody chose there are a
// claim and a talk that is accepted, but no proof.
func TestATalkOfOtherChallengesIsNoProof(t *testing.T) {
	g := largest()
	in, order, d := someBoxes(g, 2), []int{1, 0}, someDraws(2)
	out := wantMixed(g, g.H, in, order, d.Rho)
	real := wantTalk(g, "l", g.H, in, out, order, d)
	for i, l := range [][3]uint64{{5, real.Y, real.Z}, {real.X, 5, real.Z}, {real.X, real.Y, 5}, {real.X, real.Z, real.Y}} {
		talk := talkOf(g, order, d, l[0], l[1], l[2])
		c, _ := Claim(g, g.H, in, out, talk)
		w := Exponents(g, order, talk, d)
		commit, _ := linear.Image(g, c, d.D)
		e := wantAsked(g, "l", c, commit)
		answers, _ := linear.Answer(g, w, d.D, e)
		if !linear.Holds(g, c, w) || !linear.Accepts(g, c, commit, e, answers) {
			t.Errorf("talk %d isn't accepted", i)
		}
		s := api.Shown{A: talk.A, B: talk.B, P: talk.P, Proof: api.Proof{Commit: commit, Answers: answers}}
		checkRefused(t, "challenges", g, "l", g.H, in, out, s)
	}
}
