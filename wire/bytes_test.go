package wire

import (
	"encoding/hex"
	"strings"
	"testing"

	"spandrel/api"
)

// unhex reads bytes in base 16, with blanks and lines between.
func unhex(t *testing.T, s string) string {
	t.Helper()
	b, err := hex.DecodeString(strings.Join(strings.Fields(s), ""))
	if err != nil {
		t.Fatal(err)
	}
	return string(b)
}

// box7 holds the numbers from 7 on.
func box7() api.Box { return api.Box{{U: 7, V: 8}, {U: 9, V: 10}, {U: 11, V: 12}} }

const hexOfBox7 = `
	0000000000000007 0000000000000008 0000000000000009
	000000000000000a 000000000000000b 000000000000000c`

func TestLetterByHand(t *testing.T) {
	x := api.Letter{
		Box:   api.Box{{U: 0x0102030405060708, V: 2}, {U: 3, V: 4}, {U: 5, V: 6}},
		Proof: api.Proof{Commit: []uint64{0xf1f2f3f4f5f6f7f8}, Answers: []uint64{0x100, 0x10000}},
	}
	checkSaid(t, things()[0], x, unhex(t, `01
		0102030405060708 0000000000000002
		0000000000000003 0000000000000004
		0000000000000005 0000000000000006
		0001 f1f2f3f4f5f6f7f8
		0002 0000000000000100 0000000000010000`))
}

func TestMixingByHand(t *testing.T) {
	x := api.Mixing{
		Noise: []api.Letter{
			{Box: api.Box{{U: 1, V: 2}, {U: 3, V: 4}, {U: 5, V: 6}}, Proof: api.Proof{Commit: []uint64{0x21, 0x22}, Answers: []uint64{0x23}}},
			{Box: box7(), Proof: api.Proof{Answers: []uint64{0x24}}},
		},
		Out: []api.Box{
			{{U: 0x31, V: 0x32}, {U: 0x33, V: 0x34}, {U: 0x35, V: 0x36}},
			box7(),
			{{U: 0x41, V: 0x42}, {U: 0x43, V: 0x44}, {U: 0x45, V: 0x46}},
		},
		Shown: api.Shown{
			A: []uint64{0x51}, B: []uint64{0x52, 0x53}, P: []uint64{0x54, 0x55, 0x56},
			Proof: api.Proof{Commit: []uint64{0x57, 0x58, 0x59, 0x5a}, Answers: []uint64{0x5b}},
		},
	}
	checkSaid(t, things()[1], x, unhex(t, `02
		0002
		0000000000000001 0000000000000002 0000000000000003 0000000000000004 0000000000000005 0000000000000006
		0002 0000000000000021 0000000000000022
		0001 0000000000000023`+hexOfBox7+`
		0000
		0001 0000000000000024
		0003
		0000000000000031 0000000000000032 0000000000000033 0000000000000034 0000000000000035 0000000000000036`+hexOfBox7+`
		0000000000000041 0000000000000042 0000000000000043 0000000000000044 0000000000000045 0000000000000046
		0001 0000000000000051
		0002 0000000000000052 0000000000000053
		0003 0000000000000054 0000000000000055 0000000000000056
		0004 0000000000000057 0000000000000058 0000000000000059 000000000000005a
		0001 000000000000005b`))
}

func TestPassedByHand(t *testing.T) {
	l := []api.Passed{
		{
			Threes: [api.Width]api.Three{{U: 1, W: 2, V: 3}, {U: 4, W: 5, V: 6}, {U: 7, W: 8, V: 9}},
			Proofs: [api.Width]api.Proof{
				{Commit: []uint64{0x11}, Answers: []uint64{0x12, 0x13}},
				{Commit: []uint64{0x14, 0x15, 0x16}},
				{Answers: []uint64{0x17}},
			},
		},
		{Threes: [api.Width]api.Three{{U: 0x21, W: 0x22, V: 0x23}, {}, {U: 0x24, W: 0x25, V: 1 << 63}}},
	}
	checkSaid(t, things()[2], l, unhex(t, `03
		0002
		0000000000000001 0000000000000002 0000000000000003
		0000000000000004 0000000000000005 0000000000000006
		0000000000000007 0000000000000008 0000000000000009
		0001 0000000000000011
		0002 0000000000000012 0000000000000013
		0003 0000000000000014 0000000000000015 0000000000000016
		0000
		0000
		0001 0000000000000017
		0000000000000021 0000000000000022 0000000000000023
		0000000000000000 0000000000000000 0000000000000000
		0000000000000024 0000000000000025 8000000000000000
		0000 0000 0000 0000 0000 0000`))
}

// TestExample: a mixing of nothing; and the other two of nothing.
func TestExample(t *testing.T) {
	checkSaid(t, things()[1], api.Mixing{}, "\x02"+strings.Repeat("\x00\x00", 7))
	checkSaid(t, things()[0], api.Letter{}, "\x01"+strings.Repeat("\x00", 48+2+2))
	checkSaid(t, things()[2], []api.Passed(nil), "\x03\x00\x00")
}

// TestEachNumberIsAnother: of all shapes, so that two in each other's place are seen.
func TestEachNumberIsAnother(t *testing.T) {
	for _, x := range samples() {
		checkSaid(t, x.thing, x.value, x.bytes)
	}
}

// listsOfLetter are its lists of numbers; likewise those of the others.
func listsOfLetter(x *api.Letter) []*[]uint64 { return listsOfProof(&x.Proof) }

func listsOfProof(p *api.Proof) []*[]uint64 { return []*[]uint64{&p.Commit, &p.Answers} }

func listsOfMixing(x *api.Mixing) []*[]uint64 {
	l := []*[]uint64{&x.Shown.A, &x.Shown.B, &x.Shown.P}
	l = append(l, listsOfProof(&x.Shown.Proof)...)
	for i := range x.Noise {
		l = append(l, listsOfLetter(&x.Noise[i])...)
	}
	return l
}

func listsOfPassed(x []api.Passed) []*[]uint64 {
	var l []*[]uint64
	for i := range x {
		for w := range x[i].Proofs {
			l = append(l, listsOfProof(&x[i].Proofs[w])...)
		}
	}
	return l
}

// numbersOfBox are its numbers; likewise those of the others, but for the ones in
// lists of numbers.
func numbersOfBox(b *api.Box) []*uint64 {
	var l []*uint64
	for i := range b {
		l = append(l, &b[i].U, &b[i].V)
	}
	return l
}

func numbersOfMixing(x *api.Mixing) []*uint64 {
	var l []*uint64
	for i := range x.Noise {
		l = append(l, numbersOfBox(&x.Noise[i].Box)...)
	}
	for i := range x.Out {
		l = append(l, numbersOfBox(&x.Out[i])...)
	}
	return l
}

func numbersOfPassed(x []api.Passed) []*uint64 {
	var l []*uint64
	for i := range x {
		for w := range x[i].Threes {
			three := &x[i].Threes[w]
			l = append(l, &three.U, &three.W, &three.V)
		}
	}
	return l
}

// inLists are the numbers that stand in them.
func inLists(lists []*[]uint64) []*uint64 {
	var l []*uint64
	for _, list := range lists {
		for i := range *list {
			l = append(l, &(*list)[i])
		}
	}
	return l
}

// edges are numbers whose bytes are all alike, or all but one.
func edges() []uint64 {
	l := []uint64{0, 1, 255, 256, 1 << 32, api.MostMod, api.MostMod + 1, 1 << 63, greatest - 1, greatest}
	for shift := 0; shift < 64; shift += 8 {
		l = append(l, 0x80<<shift, ^uint64(0xff<<shift))
	}
	return l
}

// TestEdgesOfNumbers: each number is each edge, by itself and all at once; whatever
// the numbers are, as many bytes are said.
func TestEdgesOfNumbers(t *testing.T) {
	n := &numbers{}
	letter, mixing, passed := n.letter(3), n.mixing(2, 2, 1), n.passed(2, 2)
	inLetter := append(numbersOfBox(&letter.Box), inLists(listsOfLetter(&letter))...)
	inMixing := append(numbersOfMixing(&mixing), inLists(listsOfMixing(&mixing))...)
	inPassed := append(numbersOfPassed(passed), inLists(listsOfPassed(passed))...)
	check := func(places []*uint64, said func() string) {
		t.Helper()
		length := len(said())
		for _, x := range edges() {
			for _, place := range places {
				kept := *place
				*place = x
				if got := len(said()); got != length {
					t.Fatalf("%d bytes are said with %d in it, and %d without", got, x, length)
				}
				*place = kept
			}
		}
		for _, x := range edges() {
			for _, place := range places {
				*place = x
			}
			if got := len(said()); got != length {
				t.Fatalf("%d bytes are said of %d alone, and %d of others", got, x, length)
			}
		}
	}
	check(inLetter, func() string {
		checkSaid(t, things()[0], letter, wantLetter(letter))
		s, _ := Letter(letter)
		return s
	})
	check(inMixing, func() string {
		checkSaid(t, things()[1], mixing, wantMixing(mixing))
		s, _ := Mixing(mixing)
		return s
	})
	check(inPassed, func() string {
		checkSaid(t, things()[2], passed, wantPassed(passed))
		s, _ := Passed(passed)
		return s
	})
}
