package wire

import (
	"spandrel/api"
)

// reader: what was not read yet. Where it can't be read its methods panic, so that
// whoever reads a piece needn't ask whether the ones ahead of it were there.
type reader struct {
	rest string
}

// read answers what stands in s behind the first byte, and true; the zero value and
// false, if s isn't the first byte and one such thing.
func read[T any](first uint64, s string, item func(*reader) T) (x T, ok bool) {
	defer func() {
		if recover() != nil {
			var nothing T
			x, ok = nothing, false
		}
	}()
	r := &reader{rest: s}
	if r.integer(firstSize) != first {
		panic("the bytes say another thing")
	}
	x = item(r)
	if r.rest != "" {
		panic("there are more bytes behind")
	}
	return x, true
}

// integer reads so many bytes, the highest first.
func (r *reader) integer(size int) uint64 {
	if len(r.rest) < size {
		panic("the bytes are cut off")
	}
	var x uint64
	for i := range size {
		x = x<<8 | uint64(r.rest[i])
	}
	r.rest = r.rest[size:]
	return x
}

func readNumber(r *reader) uint64 {
	return r.integer(numberSize)
}

func readList[T any](r *reader, most int, item func(*reader) T) []T {
	count := int(r.integer(countSize))
	if count > most {
		panic("a list is too long")
	}
	var l []T
	for range count {
		l = append(l, item(r))
	}
	return l
}

func readNumbers(r *reader) []uint64 {
	return readList(r, mostNumbers, readNumber)
}

func readBox(r *reader) api.Box {
	var b api.Box
	for i := range b {
		b[i].U = readNumber(r)
		b[i].V = readNumber(r)
	}
	return b
}

func readThree(r *reader) api.Three {
	var t api.Three
	t.U = readNumber(r)
	t.W = readNumber(r)
	t.V = readNumber(r)
	return t
}

func readProof(r *reader) api.Proof {
	var p api.Proof
	p.Commit = readNumbers(r)
	p.Answers = readNumbers(r)
	return p
}

func readShown(r *reader) api.Shown {
	var s api.Shown
	s.A = readNumbers(r)
	s.B = readNumbers(r)
	s.P = readNumbers(r)
	s.Proof = readProof(r)
	return s
}

func readLetter(r *reader) api.Letter {
	var x api.Letter
	x.Box = readBox(r)
	x.Proof = readProof(r)
	return x
}

func readMixing(r *reader) api.Mixing {
	var x api.Mixing
	x.Noise = readList(r, api.MaxBatch, readLetter)
	x.Out = readList(r, api.MaxBatch, readBox)
	x.Shown = readShown(r)
	return x
}

func readPassed(r *reader) api.Passed {
	var x api.Passed
	for i := range x.Threes {
		x.Threes[i] = readThree(r)
	}
	for i := range x.Proofs {
		x.Proofs[i] = readProof(r)
	}
	return x
}

func readAllPassed(r *reader) []api.Passed {
	return readList(r, api.MaxBatch, readPassed)
}
