package digest

// maxClimb: in no greater tree is climbed.
const maxClimb = 65536

// Root answers the root of the tree of the texts, and Sum of "" of none.
func Root(l []string) string {
	if len(l) == 0 {
		return sumOf("")
	}
	row := leaves(l)
	for len(row) > 1 {
		row = above(row)
	}
	return row[0]
}

// Path answers the neighbours that are met from the ith leaf up to the root, and
// true; nil and false, if there is no ith text.
func Path(l []string, i int) ([]string, bool) {
	if i < 0 || i >= len(l) {
		return nil, false
	}
	var path []string
	for row := leaves(l); len(row) > 1; row = above(row) {
		if hasNeighbour(i, len(row)) {
			path = append(path, row[neighbour(i)])
		}
		i /= 2
	}
	return path, true
}

// Climb answers the root that follows of a text at i of n and a path, and true;
// "" and false, if there is no such place or the path isn't one of it.
func Climb(item string, i, n int, path []string) (string, bool) {
	if i < 0 || i >= n || n > maxClimb || !fitsPlace(path, i, n) {
		return "", false
	}
	at := leaf(item)
	for width := n; width > 1; width = widthAbove(width) {
		if hasNeighbour(i, width) {
			at = nodeAt(i, at, path[0])
			path = path[1:]
		}
		i /= 2
	}
	return at, true
}

// fitsPlace answers whether a path has as many neighbours as are met from i of n
// up, and each is as long as a sum.
func fitsPlace(path []string, i, n int) bool {
	if len(path) != neighboursMet(i, n) {
		return false
	}
	for _, p := range path {
		if len(p) != sumSize {
			return false
		}
	}
	return true
}

func neighboursMet(i, n int) int {
	met := 0
	for width := n; width > 1; width = widthAbove(width) {
		if hasNeighbour(i, width) {
			met++
		}
		i /= 2
	}
	return met
}

// neighbour answers where the other one of the two stands.
func neighbour(i int) int {
	return i ^ 1
}

// hasNeighbour is false of the last one of a row that is left alone.
func hasNeighbour(i, width int) bool {
	return neighbour(i) < width
}

func widthAbove(width int) int {
	return (width + 1) / 2
}

func leaves(l []string) []string {
	row := make([]string, len(l))
	for i, text := range l {
		row[i] = leaf(text)
	}
	return row
}

// above answers the row above a row.
func above(row []string) []string {
	up := make([]string, 0, widthAbove(len(row)))
	for i := 0; i < len(row); i += 2 {
		if hasNeighbour(i, len(row)) {
			up = append(up, node(row[i], row[i+1]))
		} else {
			up = append(up, row[i])
		}
	}
	return up
}

// nodeAt answers the node above the one at i and its neighbour.
func nodeAt(i int, at, other string) string {
	if i%2 == 0 {
		return node(at, other)
	}
	return node(other, at)
}

// leaf and node begin with unlike bytes, so that no text passes for two
// neighbours.
func leaf(text string) string {
	return sumOf("\x00" + text)
}

func node(left, right string) string {
	return sumOf("\x01" + left + right)
}
