package group

import (
	"math"
	"math/big"
	"reflect"
	"slices"
	"testing"

	"spandrel/api"
)

func row(n, a uint64, factors ...uint64) api.Row {
	return api.Row{N: n, A: a, Factors: factors}
}

// small is the chapter's group.
func small() api.Params {
	return api.Params{P: 2027, Q: 1013, G: 4, H: 9, Rows: []api.Row{
		row(5, 2, 2), row(11, 2, 2, 5), row(23, 5, 2, 11), row(1013, 3, 2, 11, 23), row(2027, 2, 2, 1013),
	}}
}

// largest has the greatest P that a group may have: no other one is so near to
// MostMod.
func largest() api.Params {
	return api.Params{P: 1<<62 - 10565, Q: 1<<61 - 5283, G: 4, H: 9, Rows: []api.Row{
		row(3, 2, 2), row(5, 2, 2), row(7, 3, 2, 3), row(11, 2, 2, 5), row(2311, 3, 2, 3, 5, 7, 11),
		row(73, 5, 2, 3), row(17, 3, 2), row(23, 5, 2, 11), row(41, 6, 2, 5), row(821, 2, 2, 5, 41),
		row(172411, 3, 2, 3, 5, 7, 821), row(7930907, 2, 2, 23, 172411),
		row(11864636873, 5, 2, 11, 17, 7930907), row(1732236983459, 2, 2, 73, 11864636873),
		row(249442125618097, 5, 2, 3, 1732236983459),
		row(1<<61-5283, 2, 2, 2311, 249442125618097),
		row(1<<62-10565, 2, 2, 1<<61-5283),
	}}
}

// tooLarge has the least P above MostMod that is a prime, and half of it too.
func tooLarge() api.Params {
	return api.Params{P: 1<<62 + 6595, Q: 1<<61 + 3297, G: 4, H: 9, Rows: []api.Row{
		row(3, 2, 2), row(7, 3, 2, 3), row(29, 2, 2, 7), row(59, 2, 2, 29), row(5, 2, 2), row(11, 2, 2, 5),
		row(89, 3, 2, 11), row(179, 2, 2, 89), row(23, 5, 2, 11), row(461, 2, 2, 5, 23), row(13, 2, 2, 3),
		row(53, 2, 2, 13), row(67, 2, 2, 3, 11), row(7103, 5, 2, 53, 67), row(14207, 5, 2, 7103),
		row(1108147, 2, 2, 3, 13, 14207), row(117463583, 5, 2, 53, 1108147),
		row(14800411459, 2, 2, 3, 7, 117463583),
		row(1<<61+3297, 3, 2, 59, 179, 461, 14800411459),
		row(1<<62+6595, 2, 2, 1<<61+3297),
	}}
}

// eleven has the least P of all groups; its elements are 1, 3, 4, 5 and 9.
func eleven() api.Params {
	return api.Params{P: 11, Q: 5, G: 4, H: 9, Rows: []api.Row{row(5, 2, 2), row(11, 2, 2, 5)}}
}

// twentyThree has a P that ends on other bits than that of eleven.
func twentyThree() api.Params {
	return api.Params{P: 23, Q: 11, G: 2, H: 18, Rows: []api.Row{
		row(5, 2, 2), row(11, 2, 2, 5), row(23, 5, 2, 11),
	}}
}

func smallGroups() []api.Params { return []api.Params{eleven(), twentyThree(), small()} }

func number(x uint64) *big.Int { return new(big.Int).SetUint64(x) }

func wantPower(x, e, m uint64) uint64 {
	return new(big.Int).Exp(number(x), number(e), number(m)).Uint64()
}

func wantProduct(m uint64, l ...uint64) uint64 {
	product := big.NewInt(1)
	for _, x := range l {
		product.Mul(product, number(x))
	}
	return product.Mod(product, number(m)).Uint64()
}

// squares answers the elements of a small group by what squares are, not by powers.
func squares(g api.Params) map[uint64]bool {
	in := map[uint64]bool{}
	for x := uint64(1); x < g.P; x++ {
		in[x*x%g.P] = true
	}
	return in
}

// wantIn asks the symbol of Jacobi whether x is a square modulo a prime.
func wantIn(g api.Params, x uint64) bool {
	return x > 0 && x < g.P && big.Jacobi(number(x), number(g.P)) == 1
}

// numbersFor answers numbers about the edges of a group, and of the kind.
func numbersFor(g api.Params) []uint64 {
	return []uint64{
		0, 1, 2, 3, 4, 5, 9, 1<<32 - 1, 1 << 32, 123456789012345678,
		g.Q - 2, g.Q - 1, g.Q, g.Q + 1, g.Q + 2, 2*g.Q - 1, 2 * g.Q, 3*g.Q + 2,
		g.P - 3, g.P - 2, g.P - 1, g.P, g.P + 1, g.P + 4, 2*g.P - 1, 2 * g.P, 2*g.P + 1,
		1<<62 - 1, 1 << 62, 1<<62 + 1, 1 << 63, math.MaxUint64 - 1, math.MaxUint64,
	}
}

// elementsFor answers some elements of a group whose P is 3 modulo 8, so that 2
// is none, and P - 2 is one.
func elementsFor(g api.Params) []uint64 {
	l := []uint64{1, 4, 9, g.P - 2}
	for i := range uint64(40) {
		l = append(l, wantPower(4, 0x9e3779b97f4a7c15*(i+1), g.P))
	}
	return l
}

func TestExamples(t *testing.T) {
	g := small()
	if x, ok := Lay(g, 0); x != 1 || !ok {
		t.Errorf("Lay(0) is %d, %v", x, ok)
	}
	if k, ok := Back(g, 1); k != 0 || !ok {
		t.Errorf("Back(1) is %d, %v", k, ok)
	}
	for _, c := range []struct {
		name      string
		got, want uint64
	}{
		{"Exp(4, 3)", Exp(g, 4, 3), 64},
		{"Exp(4, Q + 3)", Exp(g, 4, g.Q+3), 64},
		{"Prod()", Prod(g), 1},
		{"Prod(4, 9, 2000)", Prod(g, 4, 9, 2000), 72000 % 2027},
		{"Over(36, 9)", Over(g, 36, 9), 4},
		{"Over(36, 0)", Over(g, 36, 0), 0},
	} {
		if c.got != c.want {
			t.Errorf("%s is %d, want %d", c.name, c.got, c.want)
		}
	}
}

func TestRightGroups(t *testing.T) {
	for _, g := range append(smallGroups(), largest()) {
		if !Right(g) {
			t.Errorf("the group of %d isn't right", g.P)
		}
		g.G, g.H = g.H, g.G
		if !Right(g) {
			t.Errorf("the group of %d isn't right with G and H changed over", g.P)
		}
		g.Rows = append(slices.Clone(g.Rows), slices.Repeat(g.Rows[:1], api.MaxRows-len(g.Rows))...)
		if !Right(g) {
			t.Errorf("the group of %d isn't right with %d rows", g.P, len(g.Rows))
		}
	}
}

// TestEachPairOfBases goes through all G and H of the least group, and those
// that are elements just modulo P.
func TestEachPairOfBases(t *testing.T) {
	g := eleven()
	in := squares(g)
	for g.G = range 3 * g.P {
		for g.H = range 3 * g.P {
			want := in[g.G] && in[g.H] && g.G != 1 && g.H != 1 && g.G != g.H
			if got := Right(g); got != want {
				t.Errorf("G %d, H %d: Right is %v, want %v", g.G, g.H, got, want)
			}
		}
	}
}

type wrong struct {
	name  string
	group api.Params
}

// wrongSizes are not right by what P and Q are, and by that alone, where the
// name doesn't say otherwise.
func wrongSizes() []wrong {
	wrapped, huge, even := small(), tooLarge(), small()
	wrapped.Q += 1 << 63
	huge.P, huge.Q = math.MaxUint64, math.MaxUint64/2
	even.P, even.Q = 2028, 1014
	return []wrong{
		{"P is 6 Q + 1, with elements of it", api.Params{P: 6079, Q: 1013, G: 2, H: 4, Rows: []api.Row{
			row(5, 2, 2), row(11, 2, 2, 5), row(23, 5, 2, 11), row(1013, 3, 2, 11, 23), row(3, 2, 2),
			row(6079, 17, 2, 3, 1013),
		}}},
		{"P is 6 Q + 1, small", api.Params{P: 31, Q: 5, G: 2, H: 4, Rows: []api.Row{
			row(5, 2, 2), row(3, 2, 2), row(31, 3, 2, 3, 5),
		}}},
		{"P is Q", api.Params{P: 11, Q: 11, G: 4, H: 9, Rows: eleven().Rows}},
		{"P and Q of unlike groups", api.Params{P: 23, Q: 5, G: 4, H: 9, Rows: twentyThree().Rows}},
		{"P is 2 Q", api.Params{P: 10, Q: 5, G: 4, H: 9, Rows: eleven().Rows}},
		{"Q is P - 1", api.Params{P: 11, Q: 10, G: 4, H: 9, Rows: eleven().Rows}},
		{"P and Q changed over", api.Params{P: 5, Q: 11, G: 3, H: 4, Rows: eleven().Rows}},
		{"Q is 3", api.Params{P: 7, Q: 3, G: 2, H: 4, Rows: []api.Row{row(3, 2, 2), row(7, 3, 2, 3)}}},
		{"Q is 2", api.Params{P: 5, Q: 2, G: 4, H: 4, Rows: []api.Row{row(5, 2, 2)}}},
		{"Q is 1", api.Params{P: 3, Q: 1, G: 1, H: 1, Rows: []api.Row{row(3, 2, 2)}}},
		{"Q is 15, no prime", api.Params{P: 31, Q: 15, G: 2, H: 4, Rows: []api.Row{
			row(5, 2, 2), row(3, 2, 2), row(31, 3, 2, 3, 5),
		}}},
		{"P is 15, no prime", api.Params{P: 15, Q: 7, G: 4, H: 11, Rows: []api.Row{row(3, 2, 2), row(7, 3, 2, 3)}}},
		{"P is above MostMod, and so not proved", tooLarge()},
		{"P is the greatest number", huge},
		{"2 Q + 1 wraps round to P", wrapped},
		{"P is even", even},
	}
}

// wrongRows are not right by their rows alone.
func wrongRows() []wrong {
	alter := func(name string, f func(rows []api.Row) []api.Row) wrong {
		g := small()
		g.Rows = f(g.Rows)
		return wrong{name, g}
	}
	return []wrong{
		alter("no rows", func([]api.Row) []api.Row { return nil }),
		alter("no row of P", func(rows []api.Row) []api.Row { return rows[:4] }),
		alter("no row of Q", func(rows []api.Row) []api.Row { return slices.Delete(rows, 3, 4) }),
		alter("no row of a factor", func(rows []api.Row) []api.Row { return rows[1:] }),
		alter("P ahead of Q", func(rows []api.Row) []api.Row { rows[3], rows[4] = rows[4], rows[3]; return rows }),
		alter("a wrong row behind", func(rows []api.Row) []api.Row { return append(rows, row(9, 2, 2)) }),
		alter("a wrong row ahead", func(rows []api.Row) []api.Row { return append([]api.Row{{}}, rows...) }),
		alter("a wrong witness of P", func(rows []api.Row) []api.Row { rows[4].A = 4; return rows }),
		alter("a wrong witness of Q", func(rows []api.Row) []api.Row { rows[3].A = 4; return rows }),
		alter("too many rows", func(rows []api.Row) []api.Row { return append(rows, slices.Repeat(rows[:1], 60)...) }),
		alter("rows of another group", func([]api.Row) []api.Row { return largest().Rows }),
	}
}

// wrongBases are not right by G or H alone.
func wrongBases() []wrong {
	var l []wrong
	for _, right := range append(smallGroups(), largest()) {
		for name, x := range map[string]uint64{
			"0": 0, "1": 1, "P - 1": right.P - 1, "no element": right.P - right.G, "P": right.P, "P + 1": right.P + 1,
			"an element and P": right.P + 9, "an element and 2 P": 2*right.P + 9, "the greatest number": math.MaxUint64,
		} {
			g, h := right, right
			g.G, h.H = x, x
			l = append(l, wrong{"G is " + name, g}, wrong{"H is " + name, h})
		}
		same, alike := right, right
		same.H = same.G
		alike.H = alike.G + alike.P
		l = append(l, wrong{"G and H are the same", same}, wrong{"G and H are the same modulo P", alike})
	}
	return l
}

func TestWrongGroupsAreNotRight(t *testing.T) {
	for _, w := range slices.Concat(wrongSizes(), wrongRows(), wrongBases(), brokenGroups()) {
		if Right(w.group) {
			t.Errorf("%s: the group of P %d, Q %d is right", w.name, w.group.P, w.group.Q)
		}
	}
}

// TestEachSmallSize: of all P and Q up to 60, with rows of all primes there, the
// right ones are those of the chapter, whatever G and H are.
func TestEachSmallSize(t *testing.T) {
	rows := []api.Row{
		row(3, 2, 2), row(5, 2, 2), row(7, 3, 2, 3), row(11, 2, 2, 5), row(13, 2, 2, 3), row(17, 3, 2),
		row(19, 2, 2, 3), row(23, 5, 2, 11), row(29, 2, 2, 7), row(31, 3, 2, 3, 5), row(37, 2, 2, 3),
		row(41, 6, 2, 5), row(43, 3, 2, 3, 7), row(47, 5, 2, 23), row(53, 2, 2, 13), row(59, 2, 2, 29),
	}
	want := map[[2]uint64]bool{{11, 5}: true, {23, 11}: true, {47, 23}: true, {59, 29}: true}
	for p := range uint64(61) {
		for q := range uint64(61) {
			got := false
			for x := uint64(2); x < p; x++ {
				got = got || Right(api.Params{P: p, Q: q, G: x, H: x * x % p, Rows: rows})
			}
			if got != want[[2]uint64{p, q}] {
				t.Errorf("P %d, Q %d: Right is %v for some G and H", p, q, got)
			}
		}
	}
}

func TestIn(t *testing.T) {
	for _, g := range smallGroups() {
		in := squares(g)
		if uint64(len(in)) != g.Q {
			t.Fatalf("%d squares modulo %d", len(in), g.P)
		}
		for x := range 3 * g.P {
			if got := In(g, x); got != in[x] {
				t.Errorf("P %d: In(%d) is %v, want %v", g.P, x, got, in[x])
			}
		}
	}
	g := largest()
	for x := range uint64(1000) {
		for _, x := range []uint64{x, g.P - x, g.P + x, g.Q - x, g.Q + x, x * 0x9e3779b97f4a7c15 % g.P} {
			if got := In(g, x); got != wantIn(g, x) {
				t.Errorf("P %d: In(%d) is %v, want %v", g.P, x, got, wantIn(g, x))
			}
		}
	}
}

func TestInAtTheEdges(t *testing.T) {
	for _, g := range append(smallGroups(), largest()) {
		for x, want := range map[uint64]bool{
			0: false, 1: true, 4: true, g.P - 4: false, g.P - 1: false, g.P: false, g.P + 1: false, g.P + 4: false,
			2*g.P + 1: false, math.MaxUint64: false,
		} {
			if got := In(g, x); got != want {
				t.Errorf("P %d: In(%d) is %v, want %v", g.P, x, got, want)
			}
		}
	}
}

func TestExp(t *testing.T) {
	for _, g := range smallGroups()[:2] {
		for x := range squares(g) {
			for e := range 4 * g.Q {
				checkExp(t, g, x, e)
			}
		}
	}
	for _, g := range []api.Params{eleven(), small(), largest()} {
		for _, x := range elementsFor(g) {
			for _, e := range numbersFor(g) {
				checkExp(t, g, x, e)
			}
		}
	}
}

func checkExp(t *testing.T, g api.Params, x, e uint64) {
	t.Helper()
	got := Exp(g, x, e)
	if want := wantPower(x, e%g.Q, g.P); got != want {
		t.Errorf("P %d: Exp(%d, %d) is %d, want %d", g.P, x, e, got, want)
	}
	if !wantIn(g, got) {
		t.Errorf("P %d: Exp(%d, %d) is %d, no element", g.P, x, e, got)
	}
}

// TestExponentIsTakenModuloQ: of an element that is no test, as its power Q is 1
// anyway; of 2, which is none, the power Q is P - 1.
func TestExponentIsTakenModuloQ(t *testing.T) {
	g := small()
	for e, want := range map[uint64]uint64{0: 1, 1: 2, g.Q: 1, g.Q + 1: 2, 2*g.Q + 5: 32} {
		if got := Exp(g, 2, e); got != want {
			t.Errorf("Exp(2, %d) is %d, want %d", e, got, want)
		}
	}
	if got, want := Exp(g, 2, math.MaxUint64), wantPower(2, math.MaxUint64%g.Q, g.P); got != want {
		t.Errorf("Exp of 2 and the greatest number is %d, want %d", got, want)
	}
}

func TestProd(t *testing.T) {
	for _, g := range []api.Params{eleven(), small(), largest()} {
		l := elementsFor(g)
		for i, x := range l {
			for _, part := range [][]uint64{nil, {}, {x}, {x, x}, {x, l[0], x}, l[:i], l[i:], l} {
				if got, want := Prod(g, part...), wantProduct(g.P, part...); got != want {
					t.Errorf("P %d: Prod of %d is %d, want %d", g.P, part, got, want)
				}
			}
		}
		if got := Prod(g); got != 1 {
			t.Errorf("P %d: Prod of nothing is %d", g.P, got)
		}
		if got := Prod(g, 4, 9, g.P-2, 4); got != wantProduct(g.P, 144, g.P-2) {
			t.Errorf("P %d: Prod of four is %d", g.P, got)
		}
	}
}

// TestOver searches the element that makes 1 of y among all of a small group.
func TestOver(t *testing.T) {
	for _, g := range smallGroups()[:2] {
		in := squares(g)
		for y := range 3 * g.P {
			inverse := uint64(0)
			for z := range in {
				if z*y%g.P == 1 {
					inverse = z
				}
			}
			for x := range in {
				if got, want := Over(g, x, y), x*inverse%g.P; got != want {
					t.Errorf("P %d: Over(%d, %d) is %d, want %d", g.P, x, y, got, want)
				}
			}
		}
	}
}

func TestOverOfAGreatGroup(t *testing.T) {
	for _, g := range []api.Params{small(), largest()} {
		for _, x := range elementsFor(g) {
			for _, y := range elementsFor(g) {
				got := Over(g, x, y)
				if got >= g.P || wantProduct(g.P, got, y) != x%g.P || !wantIn(g, got) {
					t.Errorf("P %d: Over(%d, %d) is %d", g.P, x, y, got)
				}
			}
			// No element makes 1 of 0, of P, or of a number that is none itself.
			for _, y := range []uint64{0, g.P, 2 * g.P, g.P - 1, g.P - 4, 2*g.P - 9} {
				if got := Over(g, x, y); got != 0 {
					t.Errorf("P %d: Over(%d, %d) is %d, want 0", g.P, x, y, got)
				}
			}
		}
	}
}

// checkLaid holds one k against the chapter, there and back, and answers the
// element on which it is laid.
func checkLaid(t *testing.T, g api.Params, k uint64) uint64 {
	t.Helper()
	want := k + 1
	if !wantIn(g, want) {
		want = g.P - k - 1
	}
	x, ok := Lay(g, k)
	if x != want || !ok || !wantIn(g, x) {
		t.Errorf("P %d: Lay(%d) is %d, %v, want %d", g.P, k, x, ok, want)
	}
	if back, ok := Back(g, x); back != k || !ok {
		t.Errorf("P %d: Back(%d) is %d, %v, want %d", g.P, x, back, ok, k)
	}
	return x
}

func TestEachNumberIsLaidOnAnElementOfItsOwn(t *testing.T) {
	for _, g := range smallGroups() {
		seen := map[uint64]uint64{}
		for k := range g.Q {
			x := checkLaid(t, g, k)
			if other, ok := seen[x]; ok {
				t.Errorf("P %d: %d and %d are laid on %d", g.P, other, k, x)
			}
			seen[x] = k
		}
		if uint64(len(seen)) != g.Q {
			t.Errorf("P %d: %d elements are laid on, want all", g.P, len(seen))
		}
	}
}

func TestNumbersOfAGreatGroupAreLaid(t *testing.T) {
	g := largest()
	seen := map[uint64]uint64{}
	for i := range uint64(2000) {
		for _, k := range []uint64{i, g.Q - 1 - i, g.Q/2 + i, i * 0x9e3779b97f4a7c15 % g.Q} {
			x := checkLaid(t, g, k)
			if other, ok := seen[x]; ok && other != k {
				t.Errorf("%d and %d are laid on %d", other, k, x)
			}
			seen[x] = k
		}
	}
}

func TestNumberThatIsNotLaid(t *testing.T) {
	for _, g := range append(smallGroups(), largest()) {
		for _, k := range []uint64{
			g.Q, g.Q + 1, g.Q + 3, 2 * g.Q, g.P - 1, g.P, g.P + 1, 2 * g.P, 1 << 63, math.MaxUint64 - 1, math.MaxUint64,
		} {
			if x, ok := Lay(g, k); x != 0 || ok {
				t.Errorf("P %d: Lay(%d) is %d, %v, want none", g.P, k, x, ok)
			}
		}
	}
}

// TestBack goes through each number up to a small P, and above it.
func TestBack(t *testing.T) {
	for _, g := range smallGroups() {
		in := squares(g)
		for x := range 3 * g.P {
			k, ok := Back(g, x)
			if ok != in[x] {
				t.Errorf("P %d: Back(%d) is %d, %v", g.P, x, k, ok)
			}
			if !ok && k != 0 {
				t.Errorf("P %d: Back(%d) is %d beside false", g.P, x, k)
			}
			if ok {
				checkTakenBack(t, g, x, k)
			}
		}
	}
}

func TestBackOfAGreatGroup(t *testing.T) {
	g := largest()
	for _, x := range elementsFor(g) {
		k, ok := Back(g, x)
		if !ok {
			t.Errorf("Back(%d) is none", x)
		}
		checkTakenBack(t, g, x, k)
	}
	for _, x := range []uint64{0, g.P - 4, g.P - 1, g.P, g.P + 1, g.P + 4, 2*g.P + 1, 1 << 63, math.MaxUint64} {
		if k, ok := Back(g, x); k != 0 || ok {
			t.Errorf("Back(%d) is %d, %v, want none", x, k, ok)
		}
	}
}

func checkTakenBack(t *testing.T, g api.Params, x, k uint64) {
	t.Helper()
	want := x - 1
	if x > g.Q {
		want = g.P - x - 1
	}
	if k != want || k >= g.Q {
		t.Errorf("P %d: Back(%d) is %d, want %d", g.P, x, k, want)
	}
	if again, ok := Lay(g, k); again != x || !ok {
		t.Errorf("P %d: Lay(%d) is %d, %v, want %d", g.P, k, again, ok, x)
	}
}

// brokenGroups are wrong in the ways that may break a call.
func brokenGroups() []wrong {
	const most = math.MaxUint64
	l := []wrong{{"all fields 0", api.Params{}}}
	edges := []uint64{0, 1, 2, 3, 4, 5, 11, 1<<62 - 1, api.MostMod, api.MostMod + 1, 1<<63 - 1, 1 << 63, most - 1, most}
	for _, p := range edges {
		for _, q := range edges {
			if p == 11 && q == 5 {
				continue
			}
			l = append(l,
				wrong{"P and Q", api.Params{P: p, Q: q, G: 4, H: 9, Rows: eleven().Rows}},
				wrong{"P and Q, and bases of 0 and 1", api.Params{P: p, Q: q, G: 0, H: 1}},
				wrong{"P and Q, and the greatest bases", api.Params{P: p, Q: q, G: most, H: most - 1, Rows: []api.Row{{}, row(most, most, most)}}},
			)
		}
	}
	return l
}

func callAll(g api.Params, x, y uint64) {
	Right(g)
	In(g, x)
	Exp(g, x, y)
	Prod(g)
	Prod(g, x)
	Prod(g, x, y, x)
	Over(g, x, y)
	Lay(g, x)
	Back(g, x)
}

// TestEveryCallEnds: of a group that isn't right something is answered.
func TestEveryCallEnds(t *testing.T) {
	for _, w := range slices.Concat(brokenGroups(), wrongSizes(), wrongRows(), []wrong{{"right", small()}, {"right", largest()}}) {
		for _, x := range numbersFor(w.group) {
			for _, y := range numbersFor(w.group) {
				if !ends(w.group, x, y) {
					t.Fatalf("%s: a call of P %d, Q %d, and of %d and %d panics", w.name, w.group.P, w.group.Q, x, y)
				}
			}
		}
	}
}

func ends(g api.Params, x, y uint64) (ok bool) {
	defer func() { ok = recover() == nil }()
	callAll(g, x, y)
	return
}

// TestNothingIsAnsweredBesideFalse: also of a group that isn't right.
func TestNothingIsAnsweredBesideFalse(t *testing.T) {
	for _, w := range slices.Concat(brokenGroups(), wrongSizes()) {
		for _, x := range numbersFor(w.group) {
			if laid, ok := Lay(w.group, x); !ok && laid != 0 {
				t.Errorf("%s: Lay(%d) is %d beside false", w.name, x, laid)
			}
			if back, ok := Back(w.group, x); !ok && back != 0 {
				t.Errorf("%s: Back(%d) is %d beside false", w.name, x, back)
			}
		}
	}
}

func TestWhatIsHandedInStays(t *testing.T) {
	for _, groupOf := range []func() api.Params{small, largest, tooLarge} {
		g := groupOf()
		callAll(g, 4, 9)
		room := []uint64{4, 9, g.P + 1, 36, 25}
		before := slices.Clone(room)
		Prod(g, room[:4]...)
		if !slices.Equal(room, before) {
			t.Errorf("Prod has changed its numbers to %d", room)
		}
		if !reflect.DeepEqual(g, groupOf()) {
			t.Error("the group was changed")
		}
	}
}
