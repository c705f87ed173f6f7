package prime

import (
	"math"
	"math/big"
	"reflect"
	"slices"
	"testing"

	"spandrel/api"
)

// The rows of the largest prime below 2^62.
func rowsOfLargest() []api.Row {
	return []api.Row{
		row(3, 2, 2), row(7, 3, 2, 3), row(5, 2, 2), row(11, 2, 2, 5), row(23, 5, 2, 11),
		row(1289, 6, 2, 7, 23), row(37, 2, 2, 3), row(223, 3, 2, 3, 37), row(127, 3, 2, 3, 7),
		row(47, 5, 2, 23), row(659, 2, 2, 7, 47), row(251, 6, 2, 5), row(503, 5, 2, 251),
		row(7043, 2, 2, 7, 503), row(14087, 5, 2, 7043),
		row(49517298223, 3, 2, 3, 7, 127, 659, 14087),
		row(198762435067123, 2, 2, 3, 223, 49517298223),
		row(1<<62-57, 6, 2, 3, 1289, 198762435067123),
	}
}

// The rows on which the first prime above 2^62 leans, and its own at the end.
func rowsOfTooLarge() []api.Row {
	return []api.Row{
		row(3, 2, 2), row(7, 3, 2, 3), row(17, 3, 2), row(953, 3, 2, 7, 17), row(5, 2, 2),
		row(769, 11, 2, 3), row(7691, 2, 2, 5, 769), row(11, 2, 2, 5), row(19, 2, 2, 3),
		row(37, 2, 2, 3), row(15467, 5, 2, 11, 19, 37), row(197, 2, 2, 7), row(239, 7, 2, 7, 17),
		row(6779953, 10, 2, 3, 197, 239),
		row(1<<62+135, 3, 2, 3, 953, 7691, 15467, 6779953),
	}
}

func row(n, a uint64, factors ...uint64) api.Row {
	return api.Row{N: n, A: a, Factors: factors}
}

func isPrime(n uint64) bool { return new(big.Int).SetUint64(n).ProbablyPrime(20) }

// power is worked out by math/big, so that it doesn't lean on modn.
func power(a, e, m uint64) uint64 {
	number := func(x uint64) *big.Int { return new(big.Int).SetUint64(x) }
	return new(big.Int).Exp(number(a), number(e), number(m)).Uint64()
}

func primesOf(n uint64) []uint64 {
	var l []uint64
	for f := uint64(2); f*f <= n; f++ {
		if n%f == 0 {
			l = append(l, f)
		}
		for n%f == 0 {
			n /= f
		}
	}
	if n > 1 {
		l = append(l, n)
	}
	return l
}

func isWitness(a, n uint64, factors []uint64) bool {
	if power(a, n-1, n) != 1 {
		return false
	}
	return !slices.ContainsFunc(factors, func(f uint64) bool { return power(a, (n-1)/f, n) == 1 })
}

// rowOf makes the row of an odd prime.
func rowOf(n uint64) api.Row {
	factors := primesOf(n - 1)
	a := uint64(1)
	for !isWitness(a, n, factors) {
		a++
	}
	return row(n, a, factors...)
}

// firstRows makes the rows of the first odd primes: each leans on rows ahead alone.
func firstRows(count int) []api.Row {
	var rows []api.Row
	for n := uint64(3); len(rows) < count; n += 2 {
		if isPrime(n) {
			rows = append(rows, rowOf(n))
		}
	}
	return rows
}

// behind answers rows with more behind them, in new memory.
func behind(rows []api.Row, more ...api.Row) []api.Row {
	return append(slices.Clone(rows), more...)
}

// wantRow says of a row what the chapter says.
func wantRow(r api.Row, ahead []api.Row) bool {
	if r.N < 3 || r.N > api.MostMod || len(r.Factors) == 0 || len(r.Factors) > 16 {
		return false
	}
	rest := r.N - 1
	for i, f := range r.Factors {
		named := f == 2 || slices.ContainsFunc(ahead, func(x api.Row) bool { return x.N == f })
		if !named || i > 0 && f <= r.Factors[i-1] || f < 2 || (r.N-1)%f != 0 {
			return false
		}
		for rest%f == 0 {
			rest /= f
		}
	}
	return rest == 1 && isWitness(r.A, r.N, r.Factors)
}

func checkHolds(t *testing.T, name string, rows []api.Row, want bool) {
	t.Helper()
	if got := Holds(rows); got != want {
		t.Errorf("%s: Holds is %v, want %v", name, got, want)
	}
}

func checkProved(t *testing.T, n uint64, rows []api.Row, want bool) {
	t.Helper()
	if got := Proved(n, rows); got != want {
		t.Errorf("Proved(%d, ..) is %v, want %v", n, got, want)
	}
}

func TestExamples(t *testing.T) {
	seven := []api.Row{row(3, 2, 2), row(7, 3, 2, 3)}
	checkHolds(t, "7", seven, true)
	checkProved(t, 7, seven, true)
	nine := []api.Row{row(9, 2, 2)}
	checkHolds(t, "9", nine, false)
	checkProved(t, 9, nine, false)
}

func TestEmptyCertificate(t *testing.T) {
	for _, rows := range [][]api.Row{nil, {}} {
		checkHolds(t, "empty", rows, true)
		checkProved(t, 2, rows, true)
		for _, n := range []uint64{0, 1, 3, 4, api.MostMod, math.MaxUint64} {
			checkProved(t, n, rows, false)
		}
	}
}

func TestProvedNumbers(t *testing.T) {
	rows := rowsOfLargest()
	checkHolds(t, "largest", rows, true)
	checkProved(t, 2, rows, true)
	for _, r := range rows {
		checkProved(t, r.N, rows, true)
	}
	// 13 and 17 are primes without a row; 2^62 - 58 is what the last row parts.
	for _, n := range []uint64{0, 1, 4, 6, 9, 13, 17, 1<<62 - 58, 1<<62 - 56, api.MostMod, math.MaxUint64} {
		checkProved(t, n, rows, false)
	}
}

// TestWhatDoesNotHoldProvesNothing: not even 2, nor the number of a row that is right.
func TestWhatDoesNotHoldProvesNothing(t *testing.T) {
	three, seven, nine := row(3, 2, 2), row(7, 3, 2, 3), row(9, 2, 2)
	for _, rows := range [][]api.Row{
		{nine}, {{}}, {nine, three, seven}, {three, nine, seven}, {three, seven, nine}, {seven, three},
		make([]api.Row, api.MaxRows+1),
	} {
		checkHolds(t, "wrong", rows, false)
		for _, n := range []uint64{0, 2, 3, 7, 9} {
			checkProved(t, n, rows, false)
		}
	}
}

func TestManyRows(t *testing.T) {
	full := firstRows(api.MaxRows)
	checkHolds(t, "63 rows", full[:api.MaxRows-1], true)
	checkHolds(t, "64 rows", full, true)
	checkProved(t, full[63].N, full, true)
	tooMany := firstRows(api.MaxRows + 1)
	checkHolds(t, "65 rows", tooMany, false)
	checkProved(t, 2, tooMany, false)
	checkProved(t, 3, tooMany, false)
	checkProved(t, tooMany[64].N, tooMany, false)
}

func TestOneNumberInSeveralRows(t *testing.T) {
	same := slices.Repeat([]api.Row{row(3, 2, 2)}, api.MaxRows)
	checkHolds(t, "64 alike", same, true)
	checkHolds(t, "65 alike", behind(same, same[0]), false)
	// Each of the rows has to hold, not one of them.
	checkHolds(t, "one wrong", []api.Row{row(5, 2, 2), row(5, 4, 2)}, false)
	checkHolds(t, "both right", []api.Row{row(5, 2, 2), row(5, 3, 2)}, true)
}

func TestEdgesOfNumber(t *testing.T) {
	checkHolds(t, "N 3", []api.Row{row(3, 2, 2)}, true)
	largest, tooLarge := rowsOfLargest(), rowsOfTooLarge()
	checkHolds(t, "largest prime below MostMod", largest, true)
	ahead := tooLarge[:len(tooLarge)-1]
	checkHolds(t, "rows ahead of the one above MostMod", ahead, true)
	last := tooLarge[len(ahead)]
	if !isWitness(last.A, last.N, last.Factors) || !isPrime(last.N) {
		t.Error("the row above MostMod should fail by its size alone")
	}
	checkHolds(t, "first prime above MostMod", tooLarge, false)
	checkProved(t, last.N, tooLarge, false)
	fermat := firstRows(6)
	fermat = append(fermat, row(257, 3, 2), row(65537, 3, 2))
	checkHolds(t, "primes of Fermat", fermat, true)
	// 2^64 - 2^32 + 1 is a prime, far above MostMod.
	checkHolds(t, "2^64 - 2^32 + 1", behind(fermat, row(18446744069414584321, 7, 2, 3, 5, 17, 257, 65537)), false)
	for _, n := range []uint64{0, 1, 2, api.MostMod, api.MostMod + 1, 1 << 63, math.MaxUint64} {
		for _, a := range []uint64{0, 1, 2, 3, n - 1, n, n + 1} {
			checkHolds(t, "no number of a row", []api.Row{row(n, a, 2)}, false)
			checkHolds(t, "no number of a row", []api.Row{row(n, a, 1)}, false)
			checkHolds(t, "no number of a row", []api.Row{row(n, a)}, false)
		}
	}
}

// TestMostMod gives the real parts of 2^62 - 1: all but the order is right.
func TestMostMod(t *testing.T) {
	factors := []uint64{3, 715827883, 2147483647}
	ahead := rowsFor(factors...)
	checkHolds(t, "parts of MostMod - 1", ahead, true)
	for a := range uint64(50) {
		rows := behind(ahead, row(api.MostMod, a, factors...))
		if len(rows) > api.MaxRows {
			t.Fatal("the rows should not fail by their count")
		}
		checkHolds(t, "MostMod", rows, false)
	}
}

// rowsFor makes a certificate of primes, without a row of 2.
func rowsFor(primes ...uint64) []api.Row {
	var rows []api.Row
	var lay func(n uint64)
	lay = func(n uint64) {
		if n == 2 || slices.ContainsFunc(rows, func(r api.Row) bool { return r.N == n }) {
			return
		}
		r := rowOf(n)
		for _, f := range r.Factors {
			lay(f)
		}
		rows = append(rows, r)
	}
	for _, n := range primes {
		lay(n)
	}
	return rows
}

// TestManyFactors: the product of 16 primes is above MostMod, so that 15 are the
// most of a row that holds.
func TestManyFactors(t *testing.T) {
	const n = 693386350578511591
	fifteen := []uint64{2, 3, 5, 7, 11, 13, 17, 19, 23, 29, 31, 37, 41, 43, 53}
	ahead := firstRows(25)
	checkHolds(t, "15 factors", behind(ahead, row(n, 14, fifteen...)), true)
	checkProved(t, n, behind(ahead, row(n, 14, fifteen...)), true)
	for _, count := range []int{16, 17, 18, 25} {
		factors := []uint64{2}
		for _, r := range ahead[:count-1] {
			factors = append(factors, r.N)
		}
		checkHolds(t, "many factors", behind(ahead, row(n, 14, factors...)), false)
		for a := range uint64(5) {
			checkHolds(t, "many factors", []api.Row{row(3, a, slices.Repeat([]uint64{2}, count)...)}, false)
		}
	}
	for i := range fifteen {
		less := slices.Delete(slices.Clone(fifteen), i, i+1)
		checkHolds(t, "14 of 15 factors", behind(ahead, row(n, 14, less...)), false)
	}
}

func TestFactors(t *testing.T) {
	ahead := []api.Row{row(3, 2, 2), row(5, 2, 2), row(7, 3, 2, 3)}
	for _, c := range []struct {
		name string
		row  api.Row
		want bool
	}{
		{"several", row(31, 3, 2, 3, 5), true},
		{"powers", row(61, 2, 2, 3, 5), true},
		{"one", row(17, 3, 2), true},
		{"nil", api.Row{N: 3, A: 2}, false},
		{"none", api.Row{N: 3, A: 2, Factors: []uint64{}}, false},
		{"alike", row(31, 3, 2, 3, 3, 5), false},
		{"alike, as often as they are in it", row(17, 3, 2, 2, 2, 2), false},
		{"falling", row(31, 3, 5, 3, 2), false},
		{"the last falls", row(31, 3, 2, 5, 3), false},
		{"the first falls", row(31, 3, 3, 2, 5), false},
		{"in no row ahead", row(23, 5, 2, 11), false},
		{"a product of primes", row(31, 3, 2, 15), false},
		{"a power", row(17, 3, 16), false},
		{"4 alone", row(5, 2, 4), false},
		{"N itself", row(11, 2, 2, 11), false},
		{"N - 1 itself", row(31, 3, 30), false},
		{"0", row(31, 3, 0, 2, 3, 5), false},
		{"0 alone", row(31, 3, 0), false},
		{"1", row(31, 3, 1, 2, 3, 5), false},
		{"1 alone", row(31, 3, 1), false},
		{"the largest number", row(31, 3, 2, 3, 5, math.MaxUint64), false},
		{"5 is left over", row(31, 3, 2, 3), false},
		{"3 is left over", row(31, 3, 2, 5), false},
		{"2 is left over", row(31, 3, 3, 5), false},
		{"7 doesn't part it", row(31, 3, 2, 3, 5, 7), false},
		{"3 doesn't part it", row(17, 3, 2, 3), false},
		{"only what doesn't part it", row(17, 3, 3), false},
	} {
		checkHolds(t, c.name, behind(ahead, c.row), c.want)
		checkProved(t, c.row.N, behind(ahead, c.row), c.want)
	}
}

func TestRowAheadIsNotOneBehind(t *testing.T) {
	three, five, seven := row(3, 2, 2), row(5, 2, 2), row(7, 3, 2, 3)
	thirtyOne := row(31, 3, 2, 3, 5)
	checkHolds(t, "in order", []api.Row{five, three, seven, thirtyOne}, true)
	for _, rows := range [][]api.Row{
		{seven, three}, {three, thirtyOne, five}, {five, thirtyOne, three}, {thirtyOne, three, five},
	} {
		checkHolds(t, "only behind", rows, false)
	}
}

func TestWitness(t *testing.T) {
	ahead := []api.Row{row(3, 2, 2), row(5, 2, 2)}
	// 3 is a witness of 31. 1, 2, 4, 5 have powers that are 1 ahead of 30; 0 and 31 have none.
	for a, want := range map[uint64]bool{
		3: true, 34: true, 3 + 31*1000: true, 0: false, 1: false, 2: false, 4: false, 5: false,
		30: false, 31: false, 32: false, 62: false,
	} {
		checkHolds(t, "31", behind(ahead, row(31, a, 2, 3, 5)), want)
	}
	// An A above N is taken modulo N.
	for _, a := range []uint64{math.MaxUint64, math.MaxUint64 - 1, math.MaxUint64 - 2, math.MaxUint64 - 3} {
		for _, n := range []uint64{3, 5, 17} {
			checkHolds(t, "a large A", []api.Row{row(n, a, 2)}, isWitness(a%n, n, []uint64{2}))
		}
	}
	// Of 7: 2 fails at 2 alone (2^3 is 1), 6 at 3 alone (6^2 is 1).
	for _, a := range []uint64{2, 6} {
		checkHolds(t, "7", []api.Row{ahead[0], row(7, a, 2, 3)}, false)
	}
}

// TestCompositeNumbers takes numbers that look like primes to some A, or to some
// list of factors.
func TestCompositeNumbers(t *testing.T) {
	ahead := firstRows(30)
	for _, r := range []api.Row{
		row(9, 8, 2),          // 8^8 is 1 modulo 9, and so is 8^4
		row(341, 2, 2, 5, 17), // 2^340 is 1, and so is 2^170
		row(341, 2, 5),        // 2^68 isn't 1: fails by what is left over alone
		row(341, 2, 340),      // 2^1 isn't 1: fails as 340 is no prime, by that alone
		row(561, 2, 2, 5, 7),  // 561, 1105, 1729: a power N - 1 is mostly 1
		row(1105, 2, 2, 3, 23),
		row(1729, 2, 2, 3),
		row(15, 4, 2, 7), // 4^14 is 1
		row(25, 7, 2, 3), // 7^24 is 1
		row(4, 3, 3),     // 3^3 isn't 1
		row(6, 5, 5), row(8, 3, 7),
		row(65, 8, 2), row(4, 1, 3),
		row(2047, 2, 2, 3, 11, 31), // 2^11 is 1
		row(3215031751, 2, 2, 3, 5),
		row(4033, 2, 2, 3, 7),
		row(1<<32+1, 2, 2), // 2^64 is 1, so that 2^(2^31) is
		row(1<<32+1, 3, 2), // 3^(2^32) isn't
		row(2147483649, 2, 2), row(1<<61-3, 2, 2),
	} {
		if isPrime(r.N) {
			t.Errorf("%d is a prime", r.N)
		}
		checkHolds(t, "composite", behind(ahead, r), false)
		checkProved(t, r.N, behind(ahead, r), false)
	}
}

// TestCompositeNumberIsNoFactor: the row of 9 doesn't hold, so it proves no 19.
func TestCompositeNumberIsNoFactor(t *testing.T) {
	for _, rows := range [][]api.Row{
		{row(9, 2, 2), row(19, 2, 2, 9)},
		{row(3, 2, 2), row(9, 2, 2), row(19, 2, 2, 9)},
		{row(340, 3, 3), row(341, 2, 340)},
		{{}, row(3, 2, 0)},
		{row(1, 0), row(3, 2, 1, 2)},
		{row(1, 0, 1), row(3, 2, 1)},
	} {
		checkHolds(t, "leans on a row that doesn't hold", rows, false)
	}
}

// TestEachSmallRow holds all rows of small numbers, with all lists of small
// factors, against what the chapter says; what holds is a prime.
func TestEachSmallRow(t *testing.T) {
	ahead := []api.Row{row(3, 2, 2), row(5, 2, 2), row(7, 3, 2, 3)}
	parts := []uint64{2, 3, 4, 5, 7}
	for n := range uint64(100) {
		for chosen := range 1 << len(parts) {
			var factors []uint64
			for i, f := range parts {
				if chosen>>i&1 == 1 {
					factors = append(factors, f)
				}
			}
			for a := range n + 3 {
				checkSmallRow(t, row(n, a, factors...), ahead)
			}
		}
	}
}

func checkSmallRow(t *testing.T, r api.Row, ahead []api.Row) {
	t.Helper()
	for count := range len(ahead) + 1 {
		got, want := Holds(behind(ahead[:count], r)), wantRow(r, ahead[:count])
		if got != want {
			t.Errorf("%v behind %d rows: Holds is %v, want %v", r, count, got, want)
		}
		if got && !isPrime(r.N) {
			t.Errorf("%v holds, and is no prime", r)
		}
	}
}

// TestProvedArePrimes gives each number up to 1000 its real factors, and each A:
// just the primes are proved.
func TestProvedArePrimes(t *testing.T) {
	for n := uint64(3); n <= 1000; n++ {
		factors := primesOf(n - 1)
		ahead := rowsFor(factors...)
		proved := false
		for a := range n {
			proved = proved || Proved(n, behind(ahead, row(n, a, factors...)))
		}
		if proved != isPrime(n) {
			t.Errorf("%d: proved by some A: %v", n, proved)
		}
	}
}

func TestRowsAreLeftAsTheyAre(t *testing.T) {
	for _, rowsOf := range []func() []api.Row{rowsOfLargest, rowsOfTooLarge} {
		rows := rowsOf()
		Holds(rows)
		Proved(7, rows)
		if !reflect.DeepEqual(rows, rowsOf()) {
			t.Error("the rows were changed")
		}
	}
}
