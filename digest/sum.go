package digest

import (
	"math/bits"
	"strings"
	"sync"
)

const (
	pieceSize = 64 // bytes that are taken into a sum at a time
	sumSize   = 32 // bytes of a sum
	rounds    = 64 // that a piece goes through
)

// The chapter's numbers K. They hang on nothing but a rule, so they are made
// just once, by the first piece that wants them.
var (
	cubeRootsOnce sync.Once
	cubeRoots     [rounds]uint32
)

// Sum answers SHA-256 of s, 32 bytes.
func Sum(s string) string {
	// Only the bytes behind the last whole piece are copied, however long s is.
	whole := len(s) - len(s)%pieceSize
	h := takePieces(firstNumbers(), s[:whole])
	h = takePieces(h, s[whole:]+ending(uint64(len(s))))
	var sum strings.Builder
	for _, number := range h {
		sum.WriteString(asBytes(uint64(number), 4))
	}
	return sum.String()
}

// ending answers what follows a text of so many bytes, so that its end is told
// and the whole comes in pieces.
func ending(length uint64) string {
	const lengthAt = pieceSize - 8
	zeros := (pieceSize + lengthAt - 1 - int(length%pieceSize)) % pieceSize
	return "\x80" + strings.Repeat("\x00", zeros) + asBytes(8*length, 8)
}

// firstNumbers answers the first 32 bits behind the point of the square roots of
// the first eight primes.
func firstNumbers() [8]uint32 {
	return [8]uint32{
		0x6a09e667, 0xbb67ae85, 0x3c6ef372, 0xa54ff53a,
		0x510e527f, 0x9b05688c, 0x1f83d9ab, 0x5be0cd19,
	}
}

// takePieces takes a text of whole pieces into h.
func takePieces(h [8]uint32, s string) [8]uint32 {
	for ; len(s) > 0; s = s[pieceSize:] {
		h = takePiece(h, s[:pieceSize])
	}
	return h
}

// takePiece works on the eight numbers by the names that the chapter gives them,
// but the last, as h is their whole here.
func takePiece(h [8]uint32, piece string) [8]uint32 {
	cubeRootsOnce.Do(makeCubeRoots)
	w := spread(piece)
	a, b, c, d, e, f, g, last := h[0], h[1], h[2], h[3], h[4], h[5], h[6], h[7]
	for t := range rounds {
		first := last + turned(e, 6, 11, 25) + choice(e, f, g) + cubeRoots[t] + w[t]
		second := turned(a, 2, 13, 22) + majority(a, b, c)
		last, g, f, e = g, f, e, d+first
		d, c, b, a = c, b, a, first+second
	}
	return [8]uint32{
		h[0] + a, h[1] + b, h[2] + c, h[3] + d,
		h[4] + e, h[5] + f, h[6] + g, h[7] + last,
	}
}

// spread answers a number for each round of a piece: first the piece's own, then
// those that are made of the ones ahead.
func spread(piece string) [rounds]uint32 {
	var w [rounds]uint32
	for t := range 16 {
		w[t] = uint32(asNumber(piece[4*t : 4*t+4]))
	}
	for t := 16; t < rounds; t++ {
		w[t] = w[t-16] + turnedAndShifted(w[t-15], 7, 18, 3) +
			w[t-7] + turnedAndShifted(w[t-2], 17, 19, 10)
	}
	return w
}

func turned(x uint32, i, j, k int) uint32 {
	return bits.RotateLeft32(x, -i) ^ bits.RotateLeft32(x, -j) ^ bits.RotateLeft32(x, -k)
}

func turnedAndShifted(x uint32, i, j, shift int) uint32 {
	return bits.RotateLeft32(x, -i) ^ bits.RotateLeft32(x, -j) ^ x>>shift
}

// choice has the bits of f where e has a bit, and those of g elsewhere.
func choice(e, f, g uint32) uint32 {
	return e&f | ^e&g
}

// majority has the bits that two of a, b, c have at least.
func majority(a, b, c uint32) uint32 {
	return a&b | a&c | b&c
}

func makeCubeRoots() {
	for t, p := range firstPrimes(rounds) {
		cubeRoots[t] = cubeRootBits(p)
	}
}

func firstPrimes(count int) []uint64 {
	var primes []uint64
	for n := uint64(2); len(primes) < count; n++ {
		if !isParted(n, primes) {
			primes = append(primes, n)
		}
	}
	return primes
}

func isParted(n uint64, primes []uint64) bool {
	for _, p := range primes {
		if n%p == 0 {
			return true
		}
	}
	return false
}

// cubeRootBits answers the first 32 bits behind the point of the cube root of a
// prime below 512: the lowest 32 bits of the root times 2^32.
func cubeRootBits(p uint64) uint32 {
	root := uint64(0)
	for bit := uint64(1) << 34; bit > 0; bit >>= 1 {
		if cubeIsBelow(root|bit, p) {
			root |= bit
		}
	}
	return uint32(root)
}

// cubeIsBelow answers whether the cube of an x below 2^35 is below p times 2^96.
// They are never the same, as no prime is a cube.
func cubeIsBelow(x, p uint64) bool {
	squareHigh, squareLow := bits.Mul64(x, x)
	carried, _ := bits.Mul64(squareLow, x)
	return squareHigh*x+carried < p<<32
}
