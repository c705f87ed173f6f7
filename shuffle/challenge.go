package shuffle

import (
	"spandrel/api"
	"spandrel/digest"
)

// asker answers what stands for one who asks: of a letter, and of the lists that
// were laid down ahead of that question, it answers the challenge.
func asker(g api.Params, label string, y uint64, in, out []api.Box) func(letter string, lists ...[]uint64) uint64 {
	// What doesn't change from one question to the next is told once.
	known := []string{
		asBytes([]uint64{g.P, g.Q, g.G, g.H, y}),
		asBytes(numbersOf(in)),
		asBytes(numbersOf(out)),
	}
	return func(letter string, lists ...[]uint64) uint64 {
		parts := append([]string{letter}, known...)
		for _, l := range lists {
			parts = append(parts, asBytes(l))
		}
		return digest.Number(label, parts, g.Q)
	}
}

// asBytes answers each number of l in eight bytes, the highest first.
func asBytes(l []uint64) string {
	b := make([]byte, 0, 8*len(l))
	for _, x := range l {
		for shift := 56; shift >= 0; shift -= 8 {
			b = append(b, byte(x>>shift))
		}
	}
	return string(b)
}
