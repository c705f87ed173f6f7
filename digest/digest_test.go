package digest

import (
	"crypto/hmac"
	"crypto/sha256"
	"encoding/binary"
	"encoding/hex"
	"math"
	"math/big"
	"slices"
	"strings"
	"testing"
)

// text answers n bytes of a fixed rule, in which all bytes are met.
func text(n int) string {
	b := make([]byte, n)
	state := uint32(n) + 1
	for i := range b {
		state = state*1664525 + 1013904223
		b[i] = byte(state >> 24)
	}
	return string(b)
}

func wantSum(s string) string {
	sum := sha256.Sum256([]byte(s))
	return string(sum[:])
}

func wantMac(key, s string) string {
	h := hmac.New(sha256.New, []byte(key))
	h.Write([]byte(s))
	return string(h.Sum(nil))
}

func wantStream(key, nonce string, n int) string {
	var b []byte
	for counter := uint32(0); len(b) < n; counter++ {
		b = append(b, wantMac(key, nonce+string(binary.BigEndian.AppendUint32(nil, counter)))...)
	}
	return string(b[:n])
}

func wantNumber(label string, parts []string, q uint64) uint64 {
	var b []byte
	for _, s := range append([]string{label}, parts...) {
		b = binary.BigEndian.AppendUint64(b, uint64(len(s)))
		b = append(b, s...)
	}
	n := new(big.Int).SetBytes([]byte(wantSum(string(b))[:16]))
	return n.Mod(n, new(big.Int).SetUint64(q)).Uint64()
}

func TestMacExamples(t *testing.T) {
	for _, c := range []struct{ key, s, want string }{
		{"", "", "b613679a0814d9ec772f95d778c35fc5ff1697c493715653c6c712144292c5ad"},
		{"Jefe", "what do ya want for nothing?", "5bdcc146bf60754e6a042426089575c75a003f089d2739839dec58b964ec3843"},
		{strings.Repeat("\x0b", 20), "Hi There", "b0344c61d8db38535ca8afceaf0bf12b881dc200c9833da726e9376c2e32cff7"},
	} {
		if got := hex.EncodeToString([]byte(Mac(c.key, c.s))); got != c.want {
			t.Errorf("Mac(%q, %q) is %s, want %s", c.key, c.s, got, c.want)
		}
	}
}

func TestMacOfKeysOfEachLength(t *testing.T) {
	lengths := []int{500, 4096}
	for n := range 200 {
		lengths = append(lengths, n)
	}
	for _, n := range lengths {
		for _, m := range []int{0, 1, 31, 55, 56, 64, 200} {
			key, s := text(n), text(m)
			if Mac(key, s) != wantMac(key, s) {
				t.Errorf("Mac of a key of %d bytes and a text of %d is wrong", n, m)
			}
		}
	}
}

// TestLongKeyIsSummed: a key of 64 bytes is taken as it is, one of 65 by its Sum.
func TestLongKeyIsSummed(t *testing.T) {
	for n, want := range map[int]bool{63: false, 64: false, 65: true, 66: true} {
		key := text(n)
		if got := Mac(key, "s") == Mac(Sum(key), "s"); got != want {
			t.Errorf("a key of %d bytes is summed: %v, want %v", n, got, want)
		}
	}
}

func TestStream(t *testing.T) {
	for _, c := range [][2]string{{"", ""}, {"k", "n"}, {text(64), text(7)}, {text(65), text(100)}} {
		for _, n := range []int{1, 2, 31, 32, 33, 63, 64, 65, 1000, 8192, 8193, 8224, 65535, 65536} {
			if got := Stream(c[0], c[1], n); got != wantStream(c[0], c[1], n) {
				t.Errorf("Stream of %d bytes is wrong, of %d", n, len(got))
			}
		}
	}
}

func TestStreamOfNoLength(t *testing.T) {
	for _, n := range []int{0, -1, -32, math.MinInt, 65537, 65568, 1 << 32, math.MaxInt} {
		if got := Stream("k", "n", n); got != "" {
			t.Errorf("Stream of %d has %d bytes, want none", n, len(got))
		}
	}
}

func TestShorterStreamBeginsLonger(t *testing.T) {
	long := Stream("key", "nonce", 65536)
	if len(long) != 65536 {
		t.Fatalf("the longest Stream has %d bytes", len(long))
	}
	for _, n := range []int{1, 2, 30, 31, 32, 33, 34, 63, 64, 65, 4096, 65503, 65504, 65505, 65535} {
		if got := Stream("key", "nonce", n); got != long[:n] {
			t.Errorf("Stream of %d bytes doesn't begin the longest one", n)
		}
	}
}

func TestStreamHangsOnKeyAndNonce(t *testing.T) {
	if Stream("a", "b", 32) == Stream("a", "c", 32) || Stream("a", "b", 32) == Stream("c", "b", 32) {
		t.Error("unlike keys or nonces give one Stream")
	}
}

func listsOfParts() [][]string {
	return [][]string{
		nil, {}, {""}, {"", ""}, {"", "", ""}, {"a"}, {"a", ""}, {"", "a"}, {"ab"}, {"a", "b"}, {"b", "a"},
		{"abc"}, {"ab", "c"}, {"a", "bc"}, {"a", "b", "c"}, {text(55)}, {text(56)}, {text(64)},
		{text(200), text(300)}, {"\x00"}, {"\x00\x00\x00\x00\x00\x00\x00\x00"}, {text(70000)},
	}
}

func TestNumber(t *testing.T) {
	moduli := []uint64{
		2, 3, 7, 10, 256, 1<<31 - 1, 1 << 32, 1<<32 + 15, 1 << 48, 1<<61 - 1, 2305843009213691579,
		1<<62 - 57, 1<<62 - 1, 1 << 62,
	}
	for _, q := range moduli {
		for _, label := range []string{"", "a", "ab", text(64), text(300)} {
			for _, parts := range listsOfParts() {
				if got, want := Number(label, parts, q), wantNumber(label, parts, q); got != want {
					t.Errorf("Number(%.9q, %.9q, %d) is %d, want %d", label, parts, q, got, want)
				}
			}
		}
	}
}

// TestNumberOfLongSums: the first 16 bytes are all taken, whatever they are.
func TestNumberOfLongSums(t *testing.T) {
	for i := range 2000 {
		parts := []string{text(i % 70), asBytes(uint64(i), 3)}
		q := uint64(1)<<62 - uint64(i)
		if got, want := Number("draw", parts, q), wantNumber("draw", parts, q); got != want {
			t.Fatalf("Number of %d modulo %d is %d, want %d", i, q, got, want)
		}
	}
}

func TestNumberOfNoModulus(t *testing.T) {
	for _, q := range []uint64{0, 1, 1<<62 + 1, 1<<62 + 2, 1 << 63, math.MaxUint64} {
		for _, parts := range listsOfParts() {
			if got := Number("label", parts, q); got != 0 {
				t.Errorf("Number modulo %d is %d, want 0", q, got)
			}
		}
	}
}

// TestPartedOtherwise: the same bytes in other parts, or partly in the label,
// give another number.
func TestPartedOtherwise(t *testing.T) {
	const q = 1<<62 - 57
	seen := map[uint64]string{}
	for name, n := range map[string]uint64{
		"abc":         Number("abc", nil, q),
		"ab, c":       Number("ab", []string{"c"}, q),
		"a, bc":       Number("a", []string{"bc"}, q),
		"a, b, c":     Number("a", []string{"b", "c"}, q),
		", abc":       Number("", []string{"abc"}, q),
		", ab, c":     Number("", []string{"ab", "c"}, q),
		", a, bc":     Number("", []string{"a", "bc"}, q),
		", a, b, c":   Number("", []string{"a", "b", "c"}, q),
		"abc, ":       Number("abc", []string{""}, q),
		"abc, , ":     Number("abc", []string{"", ""}, q),
		"ab, , c":     Number("ab", []string{"", "c"}, q),
		"ab, c, ":     Number("ab", []string{"c", ""}, q),
		"length in a": Number("a", []string{"\x00\x00\x00\x00\x00\x00\x00\x01bc"}, q),
	} {
		if other, ok := seen[n]; ok {
			t.Errorf("%q and %q give one number", name, other)
		}
		seen[n] = name
	}
	if Number("a", nil, q) != Number("a", []string{}, q) {
		t.Error("nil and an empty list of parts give unlike numbers")
	}
}

func TestNumberLeavesParts(t *testing.T) {
	room := []string{"a", "", "b", "behind"}
	before := slices.Clone(room)
	Number("label", room[:3], 1<<40)
	if !slices.Equal(room, before) {
		t.Errorf("Number has changed its parts to %q", room)
	}
}
