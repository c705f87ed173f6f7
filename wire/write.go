package wire

import (
	"strings"

	"spandrel/api"
)

// writer: what was said so far, and whether a list was too long to be said.
type writer struct {
	said    strings.Builder
	tooLong bool
}

// written answers the first byte and x as bytes, and true; "" and false, if a list
// of x is too long.
func written[T any](first uint64, x T, write func(*writer, T)) (string, bool) {
	var w writer
	w.integer(first, firstSize)
	write(&w, x)
	if w.tooLong {
		return "", false
	}
	return w.said.String(), true
}

// integer says x in so many bytes, the highest first.
func (w *writer) integer(x uint64, size int) {
	for shift := 8 * (size - 1); shift >= 0; shift -= 8 {
		w.said.WriteByte(byte(x >> shift))
	}
}

func writeNumber(w *writer, x uint64) {
	w.integer(x, numberSize)
}

func writeList[T any](w *writer, most int, l []T, write func(*writer, T)) {
	// The items of a list that is too long are not looked at, however many they are.
	if len(l) > most {
		w.tooLong = true
		return
	}
	w.integer(uint64(len(l)), countSize)
	for _, x := range l {
		write(w, x)
	}
}

func writeNumbers(w *writer, l []uint64) {
	writeList(w, mostNumbers, l, writeNumber)
}

func writeBox(w *writer, b api.Box) {
	for _, pair := range b {
		writeNumber(w, pair.U)
		writeNumber(w, pair.V)
	}
}

func writeThree(w *writer, t api.Three) {
	writeNumber(w, t.U)
	writeNumber(w, t.W)
	writeNumber(w, t.V)
}

func writeProof(w *writer, p api.Proof) {
	writeNumbers(w, p.Commit)
	writeNumbers(w, p.Answers)
}

func writeShown(w *writer, s api.Shown) {
	writeNumbers(w, s.A)
	writeNumbers(w, s.B)
	writeNumbers(w, s.P)
	writeProof(w, s.Proof)
}

func writeLetter(w *writer, x api.Letter) {
	writeBox(w, x.Box)
	writeProof(w, x.Proof)
}

func writeMixing(w *writer, x api.Mixing) {
	writeList(w, api.MaxBatch, x.Noise, writeLetter)
	writeList(w, api.MaxBatch, x.Out, writeBox)
	writeShown(w, x.Shown)
}

func writePassed(w *writer, x api.Passed) {
	for _, three := range x.Threes {
		writeThree(w, three)
	}
	for _, proof := range x.Proofs {
		writeProof(w, proof)
	}
}

func writeAllPassed(w *writer, l []api.Passed) {
	writeList(w, api.MaxBatch, l, writePassed)
}
