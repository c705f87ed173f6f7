package wire

import (
	"reflect"
	"slices"
	"strings"
	"testing"

	"spandrel/api"
)

// checkEnds makes the calls, and tells what they were made of, if one panics.
func checkEnds(t *testing.T, why string, calls func()) {
	t.Helper()
	defer func() {
		t.Helper()
		if p := recover(); p != nil {
			t.Fatalf("%s: a call panics: %v", why, p)
		}
	}()
	calls()
}

// TestEveryCallEndsOfAnyBytes: of all lengths, also of long ones, of beginnings that
// promise more than there is, and of what was written with anything behind it.
func TestEveryCallEndsOfAnyBytes(t *testing.T) {
	d := &dice{}
	texts := []string{"", strings.Repeat("é, 字, \xc3", 1000)}
	for _, length := range []int{1, 2, 8, 49, 50, 53, 1000, 1 << 16, 1 << 22} {
		texts = append(texts, d.bytes(length))
		for _, b := range []string{"\x00", "\x01", "\x02", "\x03", "\x08", "\x40", "\x7f", "\x80", "\xff"} {
			texts = append(texts, strings.Repeat(b, length))
		}
	}
	for _, x := range things() {
		checkEnds(t, x.name, func() {
			for _, s := range texts {
				checkRead(t, x, s)
				for first := range 4 {
					checkRead(t, x, string([]byte{byte(first)})+s)
				}
			}
			for _, known := range samples() {
				for _, s := range texts[:60] {
					checkRead(t, x, known.bytes+s)
					checkRead(t, x, known.bytes[:len(known.bytes)/2]+s)
				}
			}
		})
	}
}

// TestEveryCallEndsOfAnyLists: none, and far too long ones.
func TestEveryCallEndsOfAnyLists(t *testing.T) {
	long := make([]uint64, 1<<20)
	proof := api.Proof{Commit: long, Answers: long}
	letter := api.Letter{Proof: proof}
	passed := api.Passed{Proofs: [api.Width]api.Proof{proof, proof, proof}}
	checkEnds(t, "Letter", func() {
		checkUnsaid(t, things()[0], letter, "long")
		checkSaid(t, things()[0], api.Letter{}, wantLetter(api.Letter{}))
	})
	checkEnds(t, "Mixing", func() {
		shown := api.Shown{A: long, B: long, P: long, Proof: proof}
		checkUnsaid(t, things()[1], api.Mixing{Noise: slices.Repeat([]api.Letter{letter}, 1<<16), Out: make([]api.Box, 1<<20), Shown: shown}, "long")
		checkUnsaid(t, things()[1], api.Mixing{Noise: []api.Letter{letter}, Shown: shown}, "long")
		checkSaid(t, things()[1], api.Mixing{}, wantMixing(api.Mixing{}))
	})
	checkEnds(t, "Passed", func() {
		checkUnsaid(t, things()[2], slices.Repeat([]api.Passed{passed}, 1<<16), "long")
		checkUnsaid(t, things()[2], []api.Passed{{}, passed}, "long")
		checkSaid(t, things()[2], []api.Passed(nil), wantPassed(nil))
	})
}

// withRoom answers a copy of l with room behind it, in which something stands.
func withRoom[T any](l []T, behind T) []T {
	room := append(slices.Clone(l), behind, behind, behind)
	return room[:len(l):len(room)]
}

// TestWhatIsHandedInStays: the lists, and what stands behind them.
func TestWhatIsHandedInStays(t *testing.T) {
	build := func() (api.Letter, api.Mixing, []api.Passed, []*[]uint64) {
		n := &numbers{}
		letter, mixing, passed := n.letter(3), n.mixing(2, 3, 4), n.passed(2, 5)
		lists := slices.Concat(listsOfLetter(&letter), listsOfMixing(&mixing), listsOfPassed(passed))
		for _, list := range lists {
			*list = withRoom(*list, 77)
		}
		mixing.Noise, mixing.Out = withRoom(mixing.Noise, n.letter(1)), withRoom(mixing.Out, n.box())
		return letter, mixing, withRoom(passed, n.passed(1, 1)[0]), lists
	}
	letter, mixing, passed, lists := build()
	Letter(letter)
	Mixing(mixing)
	Passed(passed)
	sameLetter, sameMixing, samePassed, sameLists := build()
	if !reflect.DeepEqual(letter, sameLetter) || !reflect.DeepEqual(mixing, sameMixing) || !reflect.DeepEqual(passed, samePassed) {
		t.Error("what was handed in is another one")
	}
	for i := range lists {
		if l, same := *lists[i], *sameLists[i]; !slices.Equal(l[:cap(l)], same[:cap(same)]) {
			t.Errorf("behind a list stands %d, want %d", l[:cap(l)], same[:cap(same)])
		}
	}
	if l, same := mixing.Noise, sameMixing.Noise; !reflect.DeepEqual(l[:cap(l)], same[:cap(same)]) {
		t.Error("behind Noise stands something else")
	}
	if l, same := mixing.Out, sameMixing.Out; !slices.Equal(l[:cap(l)], same[:cap(same)]) {
		t.Error("behind Out stands something else")
	}
	if !reflect.DeepEqual(passed[:cap(passed)], samePassed[:cap(samePassed)]) {
		t.Error("behind what is passed stands something else")
	}
}

// TestWhatWasSaidStays, whatever is done to what was handed in.
func TestWhatWasSaidStays(t *testing.T) {
	n := &numbers{}
	letter, mixing, passed := n.letter(3), n.mixing(2, 3, 4), n.passed(2, 5)
	first, _ := Letter(letter)
	second, _ := Mixing(mixing)
	third, _ := Passed(passed)
	kept := []string{strings.Clone(first), strings.Clone(second), strings.Clone(third)}
	places := inLists(slices.Concat(listsOfLetter(&letter), listsOfMixing(&mixing), listsOfPassed(passed)))
	for _, place := range slices.Concat(places, numbersOfMixing(&mixing), numbersOfPassed(passed)) {
		*place = 5
	}
	if !slices.Equal(kept, []string{first, second, third}) {
		t.Error("what was said is another one")
	}
}

// checkOwnMemory wipes one list after the other, with the room behind it: all others
// stay, and those that were read another time do too.
func checkOwnMemory(t *testing.T, name string, lists, others []*[]uint64) {
	t.Helper()
	for i, list := range lists {
		before := make([][]uint64, len(lists))
		for j := range lists {
			before[j] = slices.Clone(*lists[j])
		}
		whole := (*list)[:cap(*list)]
		for place := range whole {
			whole[place] = 5
		}
		for j := range lists {
			if j != i && !slices.Equal(before[j], *lists[j]) {
				t.Fatalf("%s: list %d shares memory with list %d", name, i, j)
			}
		}
	}
	for i, list := range others {
		if len(*list) > 0 && slices.Equal(*list, *lists[i]) {
			t.Fatalf("%s: list %d is shared by two answers", name, i)
		}
	}
}

// TestWhatIsAnsweredIsNewMemory: of two readings of one text, and within one.
func TestWhatIsAnsweredIsNewMemory(t *testing.T) {
	n := &numbers{}
	said, _ := Letter(n.letter(3))
	letter, _ := ReadLetter(said)
	other, _ := ReadLetter(said)
	checkOwnMemory(t, "ReadLetter", listsOfLetter(&letter), listsOfLetter(&other))
	checkSaid(t, things()[0], other, said)

	said, _ = Mixing(n.mixing(3, 3, 4))
	mixing, _ := ReadMixing(said)
	another, _ := ReadMixing(said)
	checkOwnMemory(t, "ReadMixing", listsOfMixing(&mixing), listsOfMixing(&another))
	clear(mixing.Noise[:cap(mixing.Noise)])
	clear(mixing.Out[:cap(mixing.Out)])
	checkSaid(t, things()[1], another, said)

	said, _ = Passed(n.passed(3, 5))
	passed, _ := ReadPassed(said)
	again, _ := ReadPassed(said)
	checkOwnMemory(t, "ReadPassed", listsOfPassed(passed), listsOfPassed(again))
	clear(passed[:cap(passed)])
	checkSaid(t, things()[2], again, said)
}

// TestOneAnswer: what a call answers doesn't hang on the calls ahead of it, also not
// on ones by which nothing was read or said.
func TestOneAnswer(t *testing.T) {
	for range 3 {
		for _, x := range samples() {
			checkSaid(t, x.thing, x.value, x.bytes)
			checkUnread(t, x.thing, x.bytes[:len(x.bytes)-1], "cut off")
			checkUnsaid(t, things()[0], api.Letter{Proof: api.Proof{Answers: make([]uint64, 65)}}, "too long")
			if got, ok := x.read(strings.Clone(x.bytes)); !ok || !reflect.DeepEqual(got, x.value) {
				t.Fatalf("Read%s of %x is %v and %t", x.name, x.bytes, got, ok)
			}
		}
	}
}

// TestAsManyBytes are said, whatever the numbers are: they hang on the counts of the
// lists alone.
func TestAsManyBytes(t *testing.T) {
	one, other := &numbers{}, &numbers{last: 1 << 50}
	for count := range 65 {
		a, _ := Letter(one.letter(count))
		b, _ := Letter(other.letter(count))
		if len(a) != len(b) || len(a) != 1+48+2+8*count+2+8*((count+1)%65) {
			t.Errorf("letters of %d are of %d and %d bytes", count, len(a), len(b))
		}
		noise, out := count%9, count/8
		a, _ = Mixing(one.mixing(noise, out, count))
		b, _ = Mixing(other.mixing(noise, out, count))
		if len(a) != len(b) || len(a) == 0 {
			t.Errorf("mixings of %d, %d and %d are of %d and %d bytes", noise, out, count, len(a), len(b))
		}
		a, _ = Passed(one.passed(noise, count))
		b, _ = Passed(other.passed(noise, count))
		if len(a) != len(b) || len(a) == 0 {
			t.Errorf("%d passed of %d are of %d and %d bytes", noise, count, len(a), len(b))
		}
	}
}
