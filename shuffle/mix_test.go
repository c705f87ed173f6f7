package shuffle

import (
	"slices"
	"testing"

	"spandrel/api"
	"spandrel/gamal"
)

// checkMixed holds Mix against the chapter's words, and pair by pair against Again
// of the box at the order's place; it answers what is mixed.
func checkMixed(t *testing.T, g api.Params, y uint64, in []api.Box, order []int, rho [][api.Width]uint64) []api.Box {
	t.Helper()
	out, ok := Mix(g, y, in, order, rho)
	if want := wantMixed(g, y, in, order, rho); !ok || !slices.Equal(out, want) {
		t.Fatalf("P %d: Mix of %d for %d by %d and %d is %d and %t, want %d", g.P, in, y, order, rho, out, ok, want)
	}
	for i, box := range out {
		for w, pair := range box {
			if want := gamal.Again(g, y, in[order[i]][w], rho[i][w]); pair != want {
				t.Errorf("P %d: by %d pair %d of box %d is %d, want %d", g.P, order, w, i, pair, want)
			}
		}
	}
	return out
}

func checkNotMixed(t *testing.T, g api.Params, y uint64, in []api.Box, order []int, rho [][api.Width]uint64) {
	t.Helper()
	if out, ok := Mix(g, y, in, order, rho); out != nil || ok {
		t.Errorf("P %d: Mix of %d for %d by %d and %d is %d and %t", g.P, in, y, order, rho, out, ok)
	}
}

// TestMixByHand: in the powers of 4, which are 1, 4, 5, 9, 3 modulo 11.
func TestMixByHand(t *testing.T) {
	in := []api.Box{{{U: 1, V: 1}, {U: 4, V: 5}, {U: 9, V: 3}}, {{U: 5, V: 4}, {U: 3, V: 9}, {U: 1, V: 4}}}
	out, ok := Mix(eleven(), 5, in, []int{1, 0}, [][api.Width]uint64{{0, 1, 2}, {3, 4, 6}})
	// The key is 4 to the 2, so that a draw of 3 puts 3 on at U, and 6 (or 1) at V.
	want := []api.Box{{{U: 5, V: 4}, {U: 1, V: 1}, {U: 5, V: 1}}, {{U: 9, V: 4}, {U: 1, V: 1}, {U: 3, V: 4}}}
	if !ok || !slices.Equal(out, want) {
		t.Errorf("Mix is %d and %t, want %d", out, ok, want)
	}
}

// TestExample: one box, the order 0: it is sealed again.
func TestExample(t *testing.T) {
	for _, g := range groups() {
		y, in := someKey(g), someBoxes(g, 1)
		out := checkMixed(t, g, y, in, []int{0}, [][api.Width]uint64{{7, 8, 9}})
		want := api.Box{gamal.Again(g, y, in[0][0], 7), gamal.Again(g, y, in[0][1], 8), gamal.Again(g, y, in[0][2], 9)}
		if len(out) != 1 || out[0] != want {
			t.Errorf("P %d: it is %d, want %d", g.P, out, want)
		}
	}
}

// TestMix: batches of 1 up to MaxBatch boxes.
func TestMix(t *testing.T) {
	for _, g := range groups() {
		for n := 1; n <= api.MaxBatch; n++ {
			for _, order := range ordersOf(n) {
				for _, y := range []uint64{1, g.G, g.H, someKey(g)} {
					checkMixed(t, g, y, someBoxes(g, n), order, someRho(n))
				}
			}
		}
	}
}

func TestMixByAllOrders(t *testing.T) {
	for _, g := range []api.Params{small(), largest()} {
		for n := 1; n <= 5; n++ {
			orders := allOrders(n)
			if want := []int{0, 1, 2, 6, 24, 120}[n]; len(orders) != want {
				t.Fatalf("%d orders of %d, want %d", len(orders), n, want)
			}
			for _, order := range orders {
				checkMixed(t, g, someKey(g), someBoxes(g, n), order, someRho(n))
			}
		}
	}
}

func TestMixByDrawsAboutQ(t *testing.T) {
	for _, g := range groups() {
		in, y := someBoxes(g, 2), someKey(g)
		for _, x := range numbersAbout(g) {
			for i := range 2 {
				for w := range api.Width {
					rho := someRho(2)
					rho[i][w] = x
					out := checkMixed(t, g, y, in, []int{1, 0}, rho)
					rho[i][w] = x % g.Q
					if same := checkMixed(t, g, y, in, []int{1, 0}, rho); !slices.Equal(out, same) {
						t.Errorf("P %d: by %d it is %d, and %d modulo Q", g.P, x, out, same)
					}
				}
			}
		}
		if out := checkMixed(t, g, y, in, []int{0, 1}, make([][api.Width]uint64, 2)); !slices.Equal(out, in) {
			t.Errorf("P %d: draws of 0 make %d of %d", g.P, out, in)
		}
	}
}

// TestMixOfEdgeElements: 1, and the greatest element, also many times.
func TestMixOfEdgeElements(t *testing.T) {
	for _, g := range groups() {
		top := g.P - 1
		for !wantElement(g, top) {
			top--
		}
		for _, x := range []uint64{1, top} {
			for n := 1; n <= api.MaxBatch; n++ {
				in := slices.Repeat([]api.Box{{{U: x, V: 1}, {U: x, V: x}, {U: 1, V: x}}}, n)
				checkMixed(t, g, x, in, someOrder(n), someRho(n))
			}
		}
	}
}

func TestMixOfNoneAndOfOneMore(t *testing.T) {
	for _, g := range groups() {
		checkNotMixed(t, g, g.G, nil, nil, nil)
		checkNotMixed(t, g, g.G, []api.Box{}, []int{}, [][api.Width]uint64{})
		checkNotMixed(t, g, g.G, nil, []int{0}, someRho(1))
		nine := api.MaxBatch + 1
		checkNotMixed(t, g, g.G, someBoxes(g, nine), someOrder(nine), someRho(nine))
		checkNotMixed(t, g, g.G, someBoxes(g, nine), someOrder(nine-1), someRho(nine-1))
		checkMixed(t, g, g.G, someBoxes(g, nine-1), someOrder(nine-1), someRho(nine-1))
	}
}

func TestMixOfWhatIsNoElement(t *testing.T) {
	for _, g := range groups() {
		for _, n := range []int{1, 2, 3, api.MaxBatch} {
			for _, x := range strangers(g) {
				for place := range numbersIn(someBoxes(g, n)) {
					in := someBoxes(g, n)
					*numbersIn(in)[place] = x
					checkNotMixed(t, g, g.G, in, someOrder(n), someRho(n))
				}
				checkNotMixed(t, g, x, someBoxes(g, n), someOrder(n), someRho(n))
			}
			checkNotMixed(t, g, g.G, make([]api.Box, n), someOrder(n), someRho(n))
		}
	}
}

func TestMixByNoOrder(t *testing.T) {
	for _, g := range groups() {
		for n := 1; n <= api.MaxBatch; n++ {
			for _, order := range noOrders(n) {
				checkNotMixed(t, g, g.G, someBoxes(g, n), order, someRho(n))
			}
			for m := 1; m <= api.MaxBatch+1; m++ {
				if m != n {
					checkNotMixed(t, g, g.G, someBoxes(g, n), someOrder(m), someRho(n))
				}
			}
		}
	}
}

func TestMixByOtherCountsOfRho(t *testing.T) {
	for _, g := range groups() {
		for n := 1; n <= api.MaxBatch; n++ {
			for m := range api.MaxBatch + 2 {
				if m != n {
					checkNotMixed(t, g, g.G, someBoxes(g, n), someOrder(n), someRho(m))
				}
			}
			checkNotMixed(t, g, g.G, someBoxes(g, n), someOrder(n), nil)
		}
	}
}

// sealed are texts of n boxes, and the boxes in which they are sealed for y.
func sealed(g api.Params, y uint64, n int) ([][api.Width]uint64, []api.Box) {
	var texts [][api.Width]uint64
	var in []api.Box
	for i := range n {
		text := [api.Width]uint64(elements(g, uint64(40+i), api.Width))
		var box api.Box
		for w, m := range text {
			box[w] = gamal.Seal(g, y, m, drawn(uint64(70+i), api.Width)[w])
		}
		texts, in = append(texts, text), append(in, box)
	}
	return texts, in
}

// opened is what the secrets' shares open of the boxes.
func opened(g api.Params, secrets []uint64, boxes []api.Box) [][api.Width]uint64 {
	var texts [][api.Width]uint64
	for _, box := range boxes {
		var text [api.Width]uint64
		for w, pair := range box {
			var shares []uint64
			for _, x := range secrets {
				shares = append(shares, gamal.Share(g, x, pair))
			}
			text[w] = gamal.Open(g, pair, shares)
		}
		texts = append(texts, text)
	}
	return texts
}

func inOrder(texts [][api.Width]uint64, order []int) [][api.Width]uint64 {
	var l [][api.Width]uint64
	for _, place := range order {
		l = append(l, texts[place])
	}
	return l
}

// TestWhatWasSealedIsOpenedAsBefore: in the order's order, by one who mixes and by
// one who proves it.
func TestWhatWasSealedIsOpenedAsBefore(t *testing.T) {
	for _, g := range groups() {
		secrets := []uint64{123456789, g.Q - 2}
		y := gamal.Join(g, []uint64{gamal.Key(g, secrets[0]), gamal.Key(g, secrets[1])})
		for n := 1; n <= api.MaxBatch; n++ {
			texts, in := sealed(g, y, n)
			for _, order := range ordersOf(n) {
				want := inOrder(texts, order)
				out := checkMixed(t, g, y, in, order, someRho(n))
				if got := opened(g, secrets, out); !slices.Equal(got, want) {
					t.Errorf("P %d: by %d %d is opened, want %d", g.P, order, got, want)
				}
				proved, _, ok := Prove(g, "l", y, in, order, someDraws(n))
				if !ok || !slices.Equal(proved, out) {
					t.Errorf("P %d: by %d %d is proved, and %d mixed", g.P, order, proved, out)
				}
			}
		}
	}
}

// TestMixedBehindEachOther: by a chain, each of which mixes what the one ahead made.
func TestMixedBehindEachOther(t *testing.T) {
	for _, g := range groups() {
		y := gamal.Key(g, 99)
		texts, boxes := sealed(g, y, 5)
		for i, order := range [][]int{{1, 2, 3, 4, 0}, {4, 3, 2, 1, 0}, {0, 2, 1, 4, 3}} {
			d := someDraws(5)
			d.Rho[i][1] = greatest
			out, shown, ok := Prove(g, "chain", y, boxes, order, d)
			if !ok || !Accept(g, "chain", y, boxes, out, shown) {
				t.Fatalf("P %d: mixing %d isn't accepted", g.P, i)
			}
			boxes, texts = out, inOrder(texts, order)
		}
		if got := opened(g, []uint64{99}, boxes); !slices.Equal(got, texts) {
			t.Errorf("P %d: %d is opened, want %d", g.P, got, texts)
		}
	}
}
