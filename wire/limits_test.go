package wire

import (
	"fmt"
	"slices"
	"testing"

	"spandrel/api"
)

// tooMany are counts past a limit; in two bytes some of them would be 0, or a count
// within it.
func tooMany(most int) []int {
	return []int{most + 1, most + 2, 2 * most, 255, 256, 257, 1000, 65535, 65536, 65537, 65536 + most, 65536 + most + 1}
}

// checkLimit sets a list to as many numbers as may be, and to more, and back.
func checkLimit(t *testing.T, why string, list *[]uint64, fits func(), fails func(string)) {
	t.Helper()
	kept := *list
	for _, count := range []int{0, 1, mostItems - 1, mostItems} {
		*list = (&numbers{last: 1 << 40}).list(count)
		fits()
	}
	for _, count := range tooMany(mostItems) {
		*list = make([]uint64, count)
		fails(fmt.Sprint(why, " of ", count))
	}
	*list = kept
}

// TestLimitsOfALettersLists: each by itself, beside an empty list and beside others.
func TestLimitsOfALettersLists(t *testing.T) {
	for count := range 65 {
		x := (&numbers{}).letter(count)
		for i, list := range listsOfLetter(&x) {
			checkLimit(t, fmt.Sprint("list ", i), list,
				func() { checkSaid(t, things()[0], x, wantLetter(x)) },
				func(why string) { checkUnsaid(t, things()[0], x, why) })
		}
	}
}

// TestLimitsOfAMixingsLists: each list of numbers by itself, of mixings of no items,
// some, and all.
func TestLimitsOfAMixingsLists(t *testing.T) {
	for _, c := range [][3]int{{0, 0, 0}, {1, 1, 0}, {2, 1, 5}, {8, 8, 45}, {1, 8, 62}} {
		x := (&numbers{}).mixing(c[0], c[1], c[2])
		for i, list := range listsOfMixing(&x) {
			checkLimit(t, fmt.Sprint(c, ", list ", i), list,
				func() { checkSaid(t, things()[1], x, wantMixing(x)) },
				func(why string) { checkUnsaid(t, things()[1], x, why) })
		}
	}
}

func TestLimitsOfThePassedOnesLists(t *testing.T) {
	for _, c := range [][2]int{{1, 0}, {1, 61}, {3, 5}, {8, 20}} {
		x := (&numbers{}).passed(c[0], c[1])
		for i, list := range listsOfPassed(x) {
			checkLimit(t, fmt.Sprint(c, ", list ", i), list,
				func() { checkSaid(t, things()[2], x, wantPassed(x)) },
				func(why string) { checkUnsaid(t, things()[2], x, why) })
		}
	}
}

// TestLimitsOfBatches: Noise, Out and what is passed, each by itself, of empty items
// and of others.
func TestLimitsOfBatches(t *testing.T) {
	n := &numbers{}
	for _, c := range [][3]int{{0, 0, 0}, {2, 3, 5}, {8, 8, 45}} {
		x := n.mixing(c[0], c[1], c[2])
		noise, out := x.Noise, x.Out
		for count := range api.MaxBatch + 1 {
			x.Noise, x.Out = n.mixing(count, 0, 3).Noise, out
			checkSaid(t, things()[1], x, wantMixing(x))
			x.Noise, x.Out = noise, n.mixing(0, count, 3).Out
			checkSaid(t, things()[1], x, wantMixing(x))
		}
		for _, count := range tooMany(api.MaxBatch) {
			x.Noise, x.Out = make([]api.Letter, count), out
			checkUnsaid(t, things()[1], x, fmt.Sprint("Noise of ", count))
			x.Noise, x.Out = noise, make([]api.Box, count)
			checkUnsaid(t, things()[1], x, fmt.Sprint("Out of ", count))
		}
		x.Noise, x.Out = n.mixing(9, 0, 3).Noise, out
		checkUnsaid(t, things()[1], x, "Noise of 9 letters")
		x.Noise, x.Out = noise, n.mixing(0, 9, 3).Out
		checkUnsaid(t, things()[1], x, "Out of 9 boxes")
	}
	for count := range api.MaxBatch + 1 {
		for _, l := range [][]api.Passed{n.passed(count, 3), n.passed(count, 60)} {
			checkSaid(t, things()[2], l, wantPassed(l))
		}
	}
	checkUnsaid(t, things()[2], n.passed(9, 3), "9 passed")
	for _, count := range tooMany(api.MaxBatch) {
		checkUnsaid(t, things()[2], make([]api.Passed, count), fmt.Sprint(count, " passed"))
	}
}

// TestAllListsAtTheirLimits: the longest of the three that are said; with one list
// longer by one, or all, they aren't.
func TestAllListsAtTheirLimits(t *testing.T) {
	n := &numbers{}
	letter, mixing, passed := n.letter(0), n.mixing(8, 8, 0), n.passed(8, 0)
	all := slices.Concat(listsOfLetter(&letter), listsOfMixing(&mixing), listsOfPassed(passed))
	for _, list := range all {
		*list = n.list(mostItems)
	}
	checkSaid(t, things()[0], letter, wantLetter(letter))
	checkSaid(t, things()[1], mixing, wantMixing(mixing))
	checkSaid(t, things()[2], passed, wantPassed(passed))
	pastLimit := func(lists []*[]uint64, fails func()) {
		for _, list := range lists {
			kept := *list
			*list = append(slices.Clone(kept), 7)
			fails()
			*list = kept
		}
	}
	pastLimit(listsOfLetter(&letter), func() { checkUnsaid(t, things()[0], letter, "one past the limit") })
	pastLimit(listsOfMixing(&mixing), func() { checkUnsaid(t, things()[1], mixing, "one past the limit") })
	pastLimit(listsOfPassed(passed), func() { checkUnsaid(t, things()[2], passed, "one past the limit") })
	for _, list := range all {
		*list = n.list(mostItems + 1)
	}
	checkUnsaid(t, things()[0], letter, "all lists too long")
	checkUnsaid(t, things()[1], mixing, "all lists too long")
	checkUnsaid(t, things()[2], passed, "all lists too long")
}

// TestTwoListsTooLong: one of them makes up for no other one.
func TestTwoListsTooLong(t *testing.T) {
	n := &numbers{}
	mixing, passed := n.mixing(2, 1, 3), n.passed(2, 3)
	inMixing, inPassed := listsOfMixing(&mixing), listsOfPassed(passed)
	check := func(lists []*[]uint64, fails func()) {
		for i, first := range lists {
			for _, second := range lists[i+1:] {
				keptFirst, keptSecond := *first, *second
				*first, *second = n.list(mostItems+1), n.list(mostItems+1)
				fails()
				*second = nil
				fails()
				*first, *second = nil, n.list(mostItems+1)
				fails()
				*first, *second = keptFirst, keptSecond
			}
		}
	}
	check(inMixing, func() { checkUnsaid(t, things()[1], mixing, "two lists") })
	check(inPassed, func() { checkUnsaid(t, things()[2], passed, "two lists") })
}

// TestNilAndEmptyAlike: each list by itself, and all of them.
func TestNilAndEmptyAlike(t *testing.T) {
	n := &numbers{}
	letter, mixing, passed := n.letter(3), n.mixing(2, 1, 3), n.passed(2, 3)
	check := func(lists []*[]uint64, said func() (string, bool)) {
		t.Helper()
		alike := func(set func(empty []uint64)) {
			t.Helper()
			set(nil)
			first, ok := said()
			set([]uint64{})
			second, fine := said()
			if !ok || !fine || first != second {
				t.Fatalf("of nil %x and %t, of an empty list %x and %t", first, ok, second, fine)
			}
		}
		for _, list := range lists {
			kept := *list
			alike(func(empty []uint64) { *list = empty })
			*list = kept
		}
		alike(func(empty []uint64) {
			for _, list := range lists {
				*list = empty
			}
		})
	}
	check(listsOfLetter(&letter), func() (string, bool) { return Letter(letter) })
	check(listsOfMixing(&mixing), func() (string, bool) { return Mixing(mixing) })
	check(listsOfPassed(passed), func() (string, bool) { return Passed(passed) })

	nothing, _ := Mixing(api.Mixing{Shown: mixing.Shown})
	for _, x := range []api.Mixing{{Noise: []api.Letter{}}, {Out: []api.Box{}}, {Noise: []api.Letter{}, Out: []api.Box{}}} {
		x.Shown = mixing.Shown
		if s, ok := Mixing(x); !ok || s != nothing {
			t.Errorf("Mixing of %v is %x and %t, want %x", x, s, ok, nothing)
		}
	}
	if s, ok := Passed([]api.Passed{}); !ok || s != "\x03\x00\x00" {
		t.Errorf("Passed of an empty list is %x and %t", s, ok)
	}
}
