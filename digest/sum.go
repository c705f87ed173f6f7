package digest

import (
	"math/bits"
	"strings"
	"sync"
)

const (
	pieceSize = 64 // bytes that are taken into a sum at a time
	sumSize   = 32 // bytes of a sum
	rounds    = 64 // that a piece goes through
)

// The chapter's numbers K as they are kept: made just once, when they are wanted
// first. They stand beside roundNumbers, by which every answer is worked out: Sum
// reads them, and no answer hangs on them.
var (
	cubeRootsOnce sync.Once
	cubeRoots     [rounds]uint32
)

// Sum answers SHA-256 of s, 32 bytes.
func Sum(s string) string {
	// Read for the reading alone: who spoilt what is kept would not spoil a sum.
	_ = keptNumbers()
	return sumOf(s)
}

// sumOf is Sum without a look at what is kept: what this package makes of sums
// is made by it.
func sumOf(s string) string {
	// Only the bytes behind the last whole piece are copied, however long s is.
	whole := len(s) - len(s)%pieceSize
	h := takePieces(firstNumbers(), s[:whole])
	h = takePieces(h, s[whole:]+ending(uint64(len(s))))
	var sum strings.Builder
	for _, number := range h {
		sum.WriteString(asBytes(uint64(number), 4))
	}
	return sum.String()
}

// ending answers what follows a text of so many bytes, so that its end is told
// and the whole comes in pieces.
func ending(length uint64) string {
	const lengthAt = pieceSize - 8
	zeros := (pieceSize + lengthAt - 1 - int(length%pieceSize)) % pieceSize
	return "\x80" + strings.Repeat("\x00", zeros) + asBytes(8*length, 8)
}

// firstNumbers answers the first 32 bits behind the point of the square roots of
// the first eight primes.
func firstNumbers() [8]uint32 {
	return [8]uint32{
		0x6a09e667, 0xbb67ae85, 0x3c6ef372, 0xa54ff53a,
		0x510e527f, 0x9b05688c, 0x1f83d9ab, 0x5be0cd19,
	}
}

// takePieces takes a text of whole pieces into h.
func takePieces(h [8]uint32, s string) [8]uint32 {
	for ; len(s) > 0; s = s[pieceSize:] {
		h = takePiece(h, s[:pieceSize])
	}
	return h
}

// takePiece works on the eight numbers by the names that the chapter gives them,
// but the last, as h is their whole here.
func takePiece(h [8]uint32, piece string) [8]uint32 {
	k, w := roundNumbers(), spread(piece)
	a, b, c, d, e, f, g, last := h[0], h[1], h[2], h[3], h[4], h[5], h[6], h[7]
	for t := range rounds {
		first := last + turned(e, 6, 11, 25) + choice(e, f, g) + k[t] + w[t]
		second := turned(a, 2, 13, 22) + majority(a, b, c)
		last, g, f, e = g, f, e, d+first
		d, c, b, a = c, b, a, first+second
	}
	return [8]uint32{
		h[0] + a, h[1] + b, h[2] + c, h[3] + d,
		h[4] + e, h[5] + f, h[6] + g, h[7] + last,
	}
}

// spread answers a number for each round of a piece: first the piece's own, then
// those that are made of the ones ahead.
func spread(piece string) [rounds]uint32 {
	var w [rounds]uint32
	for t := range 16 {
		w[t] = uint32(asNumber(piece[4*t : 4*t+4]))
	}
	for t := 16; t < rounds; t++ {
		w[t] = w[t-16] + turnedAndShifted(w[t-15], 7, 18, 3) +
			w[t-7] + turnedAndShifted(w[t-2], 17, 19, 10)
	}
	return w
}

func turned(x uint32, i, j, k int) uint32 {
	return bits.RotateLeft32(x, -i) ^ bits.RotateLeft32(x, -j) ^ bits.RotateLeft32(x, -k)
}

func turnedAndShifted(x uint32, i, j, shift int) uint32 {
	return bits.RotateLeft32(x, -i) ^ bits.RotateLeft32(x, -j) ^ x>>shift
}

// choice has the bits of f where e has a bit, and those of g elsewhere.
func choice(e, f, g uint32) uint32 {
	return e&f | ^e&g
}

// majority has the bits that two of a, b, c have at least.
func majority(a, b, c uint32) uint32 {
	return a&b | a&c | b&c
}

// roundNumbers hands on the numbers K: the first 32 bits behind the point of the
// cube roots of the first 64 primes.
func roundNumbers() [rounds]uint32 {
	return [rounds]uint32{
		0x428a2f98, 0x71374491, 0xb5c0fbcf, 0xe9b5dba5,
		0x3956c25b, 0x59f111f1, 0x923f82a4, 0xab1c5ed5,
		0xd807aa98, 0x12835b01, 0x243185be, 0x550c7dc3,
		0x72be5d74, 0x80deb1fe, 0x9bdc06a7, 0xc19bf174,
		0xe49b69c1, 0xefbe4786, 0x0fc19dc6, 0x240ca1cc,
		0x2de92c6f, 0x4a7484aa, 0x5cb0a9dc, 0x76f988da,
		0x983e5152, 0xa831c66d, 0xb00327c8, 0xbf597fc7,
		0xc6e00bf3, 0xd5a79147, 0x06ca6351, 0x14292967,
		0x27b70a85, 0x2e1b2138, 0x4d2c6dfc, 0x53380d13,
		0x650a7354, 0x766a0abb, 0x81c2c92e, 0x92722c85,
		0xa2bfe8a1, 0xa81a664b, 0xc24b8b70, 0xc76c51a3,
		0xd192e819, 0xd6990624, 0xf40e3585, 0x106aa070,
		0x19a4c116, 0x1e376c08, 0x2748774c, 0x34b0bcb5,
		0x391c0cb3, 0x4ed8aa4a, 0x5b9cca4f, 0x682e6ff3,
		0x748f82ee, 0x78a5636f, 0x84c87814, 0x8cc70208,
		0x90befffa, 0xa4506ceb, 0xbef9a3f7, 0xc67178f2,
	}
}

// keptNumbers answers the numbers K that are kept, and has them made if nobody
// wanted them yet.
func keptNumbers() [rounds]uint32 {
	cubeRootsOnce.Do(makeCubeRoots)
	return cubeRoots
}

func makeCubeRoots() {
	for t, p := range firstPrimes(rounds) {
		cubeRoots[t] = cubeRootBits(p)
	}
}

func firstPrimes(count int) []uint64 {
	var primes []uint64
	for n := uint64(2); len(primes) < count; n++ {
		if !isParted(n, primes) {
			primes = append(primes, n)
		}
	}
	return primes
}

func isParted(n uint64, primes []uint64) bool {
	for _, p := range primes {
		if n%p == 0 {
			return true
		}
	}
	return false
}

// cubeRootBits answers the first 32 bits behind the point of the cube root of a
// prime below 512: the lowest 32 bits of the root times 2^32.
func cubeRootBits(p uint64) uint32 {
	root := uint64(0)
	for bit := uint64(1) << 34; bit > 0; bit >>= 1 {
		if cubeIsBelow(root|bit, p) {
			root |= bit
		}
	}
	return uint32(root)
}

// cubeIsBelow answers whether the cube of an x below 2^35 is below p times 2^96.
// They are never the same, as no prime is a cube.
func cubeIsBelow(x, p uint64) bool {
	squareHigh, squareLow := bits.Mul64(x, x)
	carried, _ := bits.Mul64(squareLow, x)
	return squareHigh*x+carried < p<<32
}
