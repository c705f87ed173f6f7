package digest

import (
	"encoding/hex"
	"math/big"
	"os"
	"slices"
	"strings"
	"sync"
	"testing"
)

// rootsAtStart: the numbers K as they were ahead of the first call.
var rootsAtStart [rounds]uint32

func TestMain(m *testing.M) {
	rootsAtStart = cubeRoots
	os.Exit(m.Run())
}

func TestSumExamples(t *testing.T) {
	for s, want := range map[string]string{
		"":    "e3b0c44298fc1c149afbf4c8996fb92427ae41e4649b934ca495991b7852b855",
		"abc": "ba7816bf8f01cfea414140de5dae2223b00361a396177a9cb410ff61f20015ad",
		"abcdbcdecdefdefgefghfghighijhijkijkljklmklmnlmnomnopnopq": "248d6a61d20638b8e5c026930c3e6039a33ce45964ff2167f6ecedd419db06c1",
		strings.Repeat("a", 1000000):                               "cdc76e5c9914fb9281a1c7e284d73e67f1809a48a497200e046d39ccc7112cd0",
	} {
		if got := hex.EncodeToString([]byte(Sum(s))); got != want {
			t.Errorf("Sum of %.20q is %s, want %s", s, got, want)
		}
	}
}

// TestSumOfEachLength goes past the edges of several pieces, and about those of
// lengths that take another byte.
func TestSumOfEachLength(t *testing.T) {
	lengths := []int{8191, 8192, 8193, 65535, 65536, 65537, 1 << 21, 1<<21 + 1}
	for n := range 600 {
		lengths = append(lengths, n)
	}
	for _, n := range lengths {
		for _, s := range []string{text(n), strings.Repeat("\x00", n), strings.Repeat("\xff", n)} {
			if Sum(s) != wantSum(s) {
				t.Errorf("Sum of %d bytes is wrong", n)
			}
		}
	}
}

func TestSumOfManyTexts(t *testing.T) {
	s := ""
	for range 5000 {
		got := Sum(s)
		if got != wantSum(s) {
			t.Fatalf("Sum of %x is wrong", s)
		}
		s = got
	}
}

// TestEnding: what follows a text that is too long to be made here is right too:
// of 2^29 bytes on the length in bits takes more than 32 bits.
func TestEnding(t *testing.T) {
	for _, length := range []uint64{0, 55, 56, 63, 64, 1<<29 - 1, 1 << 29, 1<<29 + 55, 1<<29 + 56, 1<<31 - 1} {
		got := ending(length)
		zeros := len(got) - 9
		if zeros < 0 || zeros > 63 || (length+uint64(len(got)))%64 != 0 {
			t.Errorf("the ending of %d bytes has %d", length, len(got))
			continue
		}
		bits := new(big.Int).SetBytes([]byte(got[1+zeros:]))
		if got[0] != 0x80 || strings.Trim(got[1:1+zeros], "\x00") != "" || bits.Uint64() != 8*length {
			t.Errorf("the ending of %d bytes is %x", length, got)
		}
	}
}

// fractionBits answers the first 32 bits behind the point of the root of p, by a
// search among whole numbers of any size.
func fractionBits(p int64, power int64) uint32 {
	scaled := new(big.Int).Lsh(big.NewInt(p), uint(32*power))
	low, high := big.NewInt(0), big.NewInt(1<<45)
	for {
		middle := new(big.Int).Rsh(new(big.Int).Add(low, high), 1)
		if middle.Cmp(low) == 0 {
			return uint32(low.Uint64())
		}
		if new(big.Int).Exp(middle, big.NewInt(power), nil).Cmp(scaled) <= 0 {
			low = middle
		} else {
			high = middle
		}
	}
}

func smallPrimes(count int) []int64 {
	var primes []int64
	for n := int64(2); len(primes) < count; n++ {
		if big.NewInt(n).ProbablyPrime(20) {
			primes = append(primes, n)
		}
	}
	return primes
}

func TestNumbersAreRoots(t *testing.T) {
	Sum("")
	for i, p := range smallPrimes(rounds) {
		want := fractionBits(p, 3)
		if cubeRoots[i] != want {
			t.Errorf("K(%d) is kept as %x, want %x", i, cubeRoots[i], want)
		}
		if got := roundNumbers()[i]; got != want {
			t.Errorf("K(%d) is handed on as %x, want %x", i, got, want)
		}
	}
	for i, p := range smallPrimes(8) {
		if want := fractionBits(p, 2); firstNumbers()[i] != want {
			t.Errorf("H(%d) is %x, want %x", i, firstNumbers()[i], want)
		}
	}
}

// TestKeptNumbersAreThoseHandedOn: one is made by a rule, the other written out.
func TestKeptNumbersAreThoseHandedOn(t *testing.T) {
	Sum("")
	if cubeRoots != roundNumbers() {
		t.Errorf("the numbers K are kept as %x, and handed on as %x", cubeRoots, roundNumbers())
	}
	if keptNumbers() != cubeRoots {
		t.Errorf("the numbers K are kept as %x, and read as %x", cubeRoots, keptNumbers())
	}
}

func TestNumbersAreMadeWhenWanted(t *testing.T) {
	if rootsAtStart != [rounds]uint32{} {
		t.Error("the numbers K stood there ahead of the first call")
	}
	Sum("")
	if cubeRoots == rootsAtStart {
		t.Error("the numbers K were not kept by Sum")
	}
}

// spoilNumbers spoils each number that is kept, and answers how to mend them.
func spoilNumbers() (mend func()) {
	Sum("")
	roots := cubeRoots
	for i := range cubeRoots {
		cubeRoots[i]++
	}
	return func() { cubeRoots = roots }
}

// TestNumbersAreMadeOnce: were they made again, numbers that are spoilt would be
// right again.
func TestNumbersAreMadeOnce(t *testing.T) {
	defer spoilNumbers()()
	spoilt := cubeRoots
	Sum("abc")
	if cubeRoots != spoilt {
		t.Error("the numbers K were made again")
	}
	if keptNumbers() != spoilt {
		t.Error("what Sum reads is not what is kept")
	}
}

// TestNoAnswerHangsOnWhatIsKept: each call answers by the numbers that are handed
// on, also where those that are kept are spoilt.
func TestNoAnswerHangsOnWhatIsKept(t *testing.T) {
	defer spoilNumbers()()
	for _, n := range []int{0, 3, 55, 56, 64, 200} {
		s, key := text(n), text(n+7)
		if Sum(s) != wantSum(s) {
			t.Errorf("Sum of %d bytes hangs on what is kept", n)
		}
		if Mac(key, s) != wantMac(key, s) {
			t.Errorf("Mac of %d bytes hangs on what is kept", n)
		}
		if Stream(key, s, 70) != wantStream(key, s, 70) {
			t.Errorf("Stream of a nonce of %d bytes hangs on what is kept", n)
		}
		if Number(key, []string{s}, 1<<62) != wantNumber(key, []string{s}, 1<<62) {
			t.Errorf("Number of %d bytes hangs on what is kept", n)
		}
	}
	for n := range 6 {
		checkTreeOf(t, texts(n))
	}
}

func checkTreeOf(t *testing.T, l []string) {
	t.Helper()
	if Root(l) != wantRoot(l) {
		t.Errorf("Root of %d texts hangs on what is kept", len(l))
	}
	for i := range l {
		path, ok := Path(l, i)
		if !ok || !slices.Equal(path, wantPath(l, i)) {
			t.Errorf("Path of %d of %d hangs on what is kept", i, len(l))
		}
		if root, ok := Climb(l[i], i, len(l), path); !ok || root != wantRoot(l) {
			t.Errorf("Climb of %d of %d hangs on what is kept", i, len(l))
		}
	}
}

// TestFirstCallsAtOnce: whoever comes first, nobody reads numbers that are half
// made.
func TestFirstCallsAtOnce(t *testing.T) {
	want := wantSum("abc")
	for range 100 {
		cubeRootsOnce = sync.Once{}
		cubeRoots = [rounds]uint32{}
		var sums [8]string
		var read [8][rounds]uint32
		var calls sync.WaitGroup
		for i := range sums {
			calls.Go(func() { read[i], sums[i] = keptNumbers(), Sum("abc") })
		}
		calls.Wait()
		for i, got := range sums {
			if got != want {
				t.Fatalf("Sum is %x, want %x", got, want)
			}
			if read[i] != roundNumbers() {
				t.Fatalf("the numbers K are read as %x", read[i])
			}
		}
	}
}
