package digest

import (
	"fmt"
	"math"
	"slices"
	"strings"
	"testing"
	"unsafe"
)

// largeTree: the most texts that are climbed among.
const largeTree = 65536

func texts(n int) []string {
	l := make([]string, n)
	for i := range l {
		l[i] = fmt.Sprint("text ", i)
	}
	return l
}

func wantLeaf(s string) string { return wantSum("\x00" + s) }

func wantNode(left, right string) string { return wantSum("\x01" + left + right) }

// leftPart answers how many of n texts, 2 at least, stand below the root's left
// neighbour: the greatest power of two below n. So the tree is parted from
// above, where the chapter builds it from below.
func leftPart(n int) int {
	k := 1
	for 2*k < n {
		k *= 2
	}
	return k
}

func wantRoot(l []string) string {
	switch len(l) {
	case 0:
		return wantSum("")
	case 1:
		return wantLeaf(l[0])
	}
	k := leftPart(len(l))
	return wantNode(wantRoot(l[:k]), wantRoot(l[k:]))
}

func wantPath(l []string, i int) []string {
	if len(l) == 1 {
		return nil
	}
	k := leftPart(len(l))
	if i < k {
		return append(wantPath(l[:k], i), wantRoot(l[k:]))
	}
	return append(wantPath(l[k:], i-k), wantRoot(l[:k]))
}

func rightPath(t *testing.T, l []string, i int) []string {
	t.Helper()
	path, ok := Path(l, i)
	if !ok {
		t.Fatalf("there is no Path of %d of %d", i, len(l))
	}
	return path
}

func checkNoClimb(t *testing.T, why, item string, i, n int, path []string) {
	t.Helper()
	if got, ok := Climb(item, i, n, path); got != "" || ok {
		t.Errorf("%s: Climb at %d of %d is %x, %v, want none", why, i, n, got, ok)
	}
}

func TestRootByHand(t *testing.T) {
	a, b, c, d, e := wantLeaf("a"), wantLeaf("b"), wantLeaf("c"), wantLeaf("d"), wantLeaf("e")
	four := wantNode(wantNode(a, b), wantNode(c, d))
	for _, x := range []struct {
		l    string
		want string
	}{
		{"a", a},
		{"a b", wantNode(a, b)},
		{"b a", wantNode(b, a)},
		{"a b c", wantNode(wantNode(a, b), c)},
		{"a b c d", four},
		{"a b c d e", wantNode(four, e)},
		{"a a", wantNode(a, a)},
	} {
		if got := Root(strings.Fields(x.l)); got != x.want {
			t.Errorf("Root of %s is %x, want %x", x.l, got, x.want)
		}
	}
}

func TestRootOfNoTexts(t *testing.T) {
	for _, l := range [][]string{nil, {}} {
		if got := Root(l); got != wantSum("") {
			t.Errorf("Root of no texts is %x", got)
		}
	}
}

func TestRootOfEachSize(t *testing.T) {
	for n := range 70 {
		l := texts(n)
		if got := Root(l); got != wantRoot(l) {
			t.Errorf("Root of %d texts is %x, want %x", n, got, wantRoot(l))
		}
	}
	for _, l := range [][]string{{""}, {"", ""}, {"", "", ""}, {text(55), text(64), text(1000)}} {
		if got := Root(l); got != wantRoot(l) {
			t.Errorf("Root of %.9q is %x, want %x", l, got, wantRoot(l))
		}
	}
}

// TestNoTextPassesForNeighbours: a text of the bytes of two leaves, with or
// without the byte ahead of them, isn't the node above them.
func TestNoTextPassesForNeighbours(t *testing.T) {
	both := wantLeaf("a") + wantLeaf("b")
	for _, s := range []string{both, "\x01" + both, "\x00" + both} {
		if Root([]string{s}) == Root([]string{"a", "b"}) {
			t.Errorf("%x passes for the node above a and b", s)
		}
	}
}

func TestPath(t *testing.T) {
	for n := 1; n <= 40; n++ {
		l := texts(n)
		for i := range n {
			got, ok := Path(l, i)
			if want := wantPath(l, i); !ok || !slices.Equal(got, want) {
				t.Errorf("Path of %d of %d is %x, %v, want %x", i, n, got, ok, want)
			}
		}
	}
}

func TestPathOfNoPlace(t *testing.T) {
	for n := range 18 {
		for _, i := range []int{-1, -2, -n - 1, math.MinInt, n, n + 1, 2*n + 1, math.MaxInt} {
			if path, ok := Path(texts(n), i); path != nil || ok {
				t.Errorf("Path of %d of %d is %x, %v, want none", i, n, path, ok)
			}
		}
	}
	if path, ok := Path(nil, 0); path != nil || ok {
		t.Errorf("Path of no texts is %x, %v, want none", path, ok)
	}
}

func TestClimbOfPathIsRoot(t *testing.T) {
	for n := 1; n <= 40; n++ {
		l := texts(n)
		for i := range n {
			got, ok := Climb(l[i], i, n, rightPath(t, l, i))
			if !ok || got != wantRoot(l) {
				t.Errorf("Climb at %d of %d is %x, %v, want %x", i, n, got, ok, wantRoot(l))
			}
		}
	}
}

func TestClimbByAnyPath(t *testing.T) {
	x, y := text(32), wantSum("y")
	got, ok := Climb("s", 2, 6, []string{x, y, wantLeaf("z")})
	want := wantNode(wantNode(y, wantNode(wantLeaf("s"), x)), wantLeaf("z"))
	if !ok || got != want {
		t.Errorf("Climb at 2 of 6 is %x, %v, want %x", got, ok, want)
	}
	// The last of 5 stands alone up to the root.
	got, ok = Climb("s", 4, 5, []string{x})
	if want = wantNode(x, wantLeaf("s")); !ok || got != want {
		t.Errorf("Climb at 4 of 5 is %x, %v, want %x", got, ok, want)
	}
	for _, path := range [][]string{nil, {}} {
		if got, ok = Climb("", 0, 1, path); !ok || got != wantLeaf("") {
			t.Errorf("Climb at 0 of 1 is %x, %v", got, ok)
		}
	}
}

func TestClimbByPathsOfWrongLength(t *testing.T) {
	for n := 1; n <= 17; n++ {
		l := texts(n)
		for i := range n {
			path := rightPath(t, l, i)
			checkNoClimb(t, "one too many", l[i], i, n, append(slices.Clone(path), wantSum("y")))
			checkNoClimb(t, "an empty one too many", l[i], i, n, append(slices.Clone(path), ""))
			checkNoClimb(t, "many too many", l[i], i, n, append(slices.Clone(path), texts(1000)...))
			for short := range path {
				checkNoClimb(t, "too short", l[i], i, n, path[:short])
				checkNoClimb(t, "too short ahead", l[i], i, n, path[short+1:])
			}
		}
	}
}

func TestClimbByNeighboursOfWrongLength(t *testing.T) {
	for n := 2; n <= 17; n++ {
		l := texts(n)
		for i := range n {
			path := rightPath(t, l, i)
			for k, right := range path {
				for _, wrong := range []string{"", right[:1], right[:31], right[1:], right + "\x00", right + right} {
					spoilt := slices.Clone(path)
					spoilt[k] = wrong
					checkNoClimb(t, "a neighbour isn't of 32 bytes", l[i], i, n, spoilt)
				}
			}
		}
	}
}

// TestClimbAtNoPlace hands in paths of every length that a place may ask for.
func TestClimbAtNoPlace(t *testing.T) {
	for length := range 20 {
		path := slices.Repeat([]string{wantSum("y")}, length)
		for n := range 18 {
			for _, i := range []int{-1, -2, -n - 1, math.MinInt, n, n + 1, 2*n + 1, 65536, math.MaxInt} {
				checkNoClimb(t, "no place", "s", i, n, path)
			}
		}
		for _, n := range []int{-1, -2, -17, math.MinInt} {
			for _, i := range []int{-3, -1, 0, 1, math.MinInt, math.MaxInt} {
				checkNoClimb(t, "no tree", "s", i, n, path)
			}
		}
		for _, n := range []int{largeTree + 1, largeTree + 2, 1 << 17, 1 << 32, math.MaxInt} {
			for _, i := range []int{0, 1, largeTree - 1, largeTree, n - 1} {
				checkNoClimb(t, "too great a tree", "s", i, n, path)
			}
		}
	}
}

func TestGreatestTree(t *testing.T) {
	l := texts(largeTree)
	root := Root(l)
	if root != wantRoot(l) {
		t.Fatal("Root of 65536 texts is wrong")
	}
	for _, i := range []int{0, 1, 4711, largeTree / 2, largeTree - 1} {
		path := rightPath(t, l, i)
		if got, ok := Climb(l[i], i, largeTree, path); !ok || got != root || len(path) != 16 {
			t.Errorf("Climb at %d of 65536 is %x, %v", i, got, ok)
		}
	}
}

// TestTreeOneAboveTheGreatest has a root and paths, but isn't climbed in.
func TestTreeOneAboveTheGreatest(t *testing.T) {
	l := texts(largeTree + 1)
	if Root(l) != wantRoot(l) {
		t.Fatal("Root of 65537 texts is wrong")
	}
	for _, i := range []int{0, largeTree - 1, largeTree} {
		path := rightPath(t, l, i)
		if !slices.Equal(path, wantPath(l, i)) {
			t.Errorf("Path of %d of 65537 is wrong", i)
		}
		checkNoClimb(t, "too great a tree", l[i], i, largeTree+1, path)
	}
}

// pathsOf answers all paths of so many neighbours out of a few.
func pathsOf(length int, neighbours []string) [][]string {
	paths := [][]string{nil}
	for range length {
		var longer [][]string
		for _, p := range paths {
			for _, x := range neighbours {
				longer = append(longer, append(slices.Clone(p), x))
			}
		}
		paths = longer
	}
	return paths
}

// TestUnlikeTextsClimbToUnlikeRoots: at one place no two of the texts come to
// one root, by whichever paths out of the leaves and the nodes above them: not
// where neighbours change their sides, nor where a text is made of sums.
func TestUnlikeTextsClimbToUnlikeRoots(t *testing.T) {
	a, b := wantLeaf("a"), wantLeaf("b")
	items := []string{"a", "b", "", "\x00a", a, b, a + b, b + a, "\x01" + a + b, "\x00" + a + b}
	neighbours := []string{a, b, wantNode(a, b), wantNode(b, a), wantNode(a, a)}
	for n := 1; n <= 8; n++ {
		for i := range n {
			owner := map[string]string{}
			for _, path := range pathsOf(len(wantPath(texts(n), i)), neighbours) {
				for _, item := range items {
					root, ok := Climb(item, i, n, path)
					if other, met := owner[root]; !ok || met && other != item {
						t.Fatalf("at %d of %d %q climbs to %x, %v, as %q does", i, n, item, root, ok, other)
					}
					owner[root] = item
				}
			}
		}
	}
}

// TestRootHangsOnAll: no neighbour is passed over, and no bit of one.
func TestRootHangsOnAll(t *testing.T) {
	for n := 1; n <= 17; n++ {
		l := texts(n)
		root := Root(l)
		for i := range n {
			path := rightPath(t, l, i)
			if got, _ := Climb(l[i]+"x", i, n, path); got == root {
				t.Errorf("another text at %d of %d climbs to the root", i, n)
			}
			for k := range path {
				for at := range 32 {
					b := []byte(path[k])
					b[at] ^= 1
					spoilt := slices.Clone(path)
					spoilt[k] = string(b)
					if got, ok := Climb(l[i], i, n, spoilt); !ok || got == root {
						t.Errorf("at %d of %d byte %d of neighbour %d doesn't matter", i, n, at, k)
					}
				}
			}
		}
	}
}

// TestArgumentsStay: neither the lists nor the room behind them are written to.
func TestArgumentsStay(t *testing.T) {
	for n := range 18 {
		room := append(texts(n), "behind", "further behind")
		before := slices.Clone(room)
		l := room[:n]
		Root(l)
		for i := -1; i <= n; i++ {
			Path(l, i)
		}
		if !slices.Equal(room, before) {
			t.Fatalf("a list of %d texts was changed", n)
		}
		for i := range n {
			path := rightPath(t, l, i)
			long := append(slices.Clone(path), "behind")
			kept := slices.Clone(long)
			Climb(l[i], i, n, long[:len(path)])
			Climb(l[i], i, n, long)
			if !slices.Equal(long, kept) {
				t.Fatalf("the path of %d of %d was changed", i, n)
			}
		}
	}
}

// sharesBytes answers whether two texts lie over each other in memory.
func sharesBytes(s, u string) bool {
	if s == "" || u == "" {
		return false
	}
	a, b := uintptr(unsafe.Pointer(unsafe.StringData(s))), uintptr(unsafe.Pointer(unsafe.StringData(u)))
	return a < b+uintptr(len(u)) && b < a+uintptr(len(s))
}

func TestAnswersAreNewMemory(t *testing.T) {
	for n := 1; n <= 17; n++ {
		l := texts(n)
		for i := range n {
			path := rightPath(t, l, i)
			root, _ := Climb(l[i], i, n, path)
			for _, given := range append(slices.Clone(l), path...) {
				if sharesBytes(root, given) || sharesBytes(Root(l), given) {
					t.Fatalf("the root of %d texts lies in an argument", n)
				}
			}
			again := slices.Clone(rightPath(t, l, i))
			for k := range path {
				path[k] = "spoilt"
			}
			if !slices.Equal(l, texts(n)) || !slices.Equal(rightPath(t, l, i), again) {
				t.Fatalf("the path of %d of %d is kept or lies in the list", i, n)
			}
		}
	}
}

func TestListIsNotKept(t *testing.T) {
	l := texts(5)
	root, path := Root(l), rightPath(t, l, 2)
	kept := slices.Clone(path)
	for i := range l {
		l[i] = "spoilt"
	}
	if root != wantRoot(texts(5)) || !slices.Equal(path, kept) || Root(l) != wantRoot(l) {
		t.Error("an answer hangs on what became of the list")
	}
}
