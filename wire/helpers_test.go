package wire

import (
	"encoding/binary"
	"math"
	"reflect"
	"slices"
	"strings"
	"testing"

	"spandrel/api"
)

const greatest = math.MaxUint64

// mostItems: the chapter's limit of lists of numbers.
const mostItems = 64

// numbers hands out numbers of which no two are the same.
type numbers struct{ last uint64 }

func (n *numbers) next() uint64 {
	n.last++
	return n.last * 0x9e3779b97f4a7c15 // it is odd, so that the products are unlike
}

func (n *numbers) list(count int) []uint64 {
	var l []uint64
	for range count {
		l = append(l, n.next())
	}
	return l
}

func (n *numbers) box() api.Box {
	var b api.Box
	for i := range b {
		b[i] = api.Pair{U: n.next(), V: n.next()}
	}
	return b
}

// The counts of the lists of numbers go up by one from list to list, modulo more
// than the limit, so that no two lists behind each other are of one length.

func (n *numbers) proof(count int) api.Proof {
	return api.Proof{Commit: n.list(count % 65), Answers: n.list((count + 1) % 65)}
}

func (n *numbers) letter(count int) api.Letter {
	return api.Letter{Box: n.box(), Proof: n.proof(count)}
}

func (n *numbers) mixing(noise, out, count int) api.Mixing {
	var m api.Mixing
	for i := range noise {
		m.Noise = append(m.Noise, n.letter(count+2*i))
	}
	for range out {
		m.Out = append(m.Out, n.box())
	}
	count += 2 * noise
	m.Shown = api.Shown{A: n.list(count % 65), B: n.list((count + 1) % 65), P: n.list((count + 2) % 65), Proof: n.proof(count + 3)}
	return m
}

func (n *numbers) passed(items, count int) []api.Passed {
	var l []api.Passed
	for i := range items {
		var x api.Passed
		for w := range api.Width {
			x.Threes[w] = api.Three{U: n.next(), W: n.next(), V: n.next()}
			x.Proofs[w] = n.proof(count + 6*i + 2*w)
		}
		l = append(l, x)
	}
	return l
}

// What the chapter asks for, as bytes.

func wantNumbers(l ...uint64) string {
	var b []byte
	for _, x := range l {
		b = binary.BigEndian.AppendUint64(b, x)
	}
	return string(b)
}

func wantCount(n int) string {
	return string(binary.BigEndian.AppendUint16(nil, uint16(n)))
}

func wantList(l []uint64) string {
	return wantCount(len(l)) + wantNumbers(l...)
}

func wantBox(b api.Box) string {
	return wantNumbers(b[0].U, b[0].V, b[1].U, b[1].V, b[2].U, b[2].V)
}

func wantProof(p api.Proof) string {
	return wantList(p.Commit) + wantList(p.Answers)
}

func wantLetter(x api.Letter) string {
	return "\x01" + wantBox(x.Box) + wantProof(x.Proof)
}

func wantMixing(x api.Mixing) string {
	s := "\x02" + wantCount(len(x.Noise))
	for _, letter := range x.Noise {
		s += wantBox(letter.Box) + wantProof(letter.Proof)
	}
	s += wantCount(len(x.Out))
	for _, box := range x.Out {
		s += wantBox(box)
	}
	return s + wantList(x.Shown.A) + wantList(x.Shown.B) + wantList(x.Shown.P) + wantProof(x.Shown.Proof)
}

func wantPassed(l []api.Passed) string {
	s := "\x03" + wantCount(len(l))
	for _, x := range l {
		for _, three := range x.Threes {
			s += wantNumbers(three.U, three.W, three.V)
		}
		for _, proof := range x.Proofs {
			s += wantProof(proof)
		}
	}
	return s
}

// part is a piece of what is said: so many numbers, or a list of up to most items.
type part struct {
	numbers int
	most    int
	item    []part
}

func listOf(most int, item ...part) part { return part{most: most, item: item} }

func boxParts() []part { return []part{{numbers: 6}} }

func lists(count int) []part {
	return slices.Repeat([]part{listOf(mostItems, part{numbers: 1})}, count)
}

func letterParts() []part { return append(boxParts(), lists(2)...) }

func mixingParts() []part {
	return append([]part{listOf(api.MaxBatch, letterParts()...), listOf(api.MaxBatch, boxParts()...)}, lists(5)...)
}

func passedParts() []part {
	return []part{listOf(api.MaxBatch, append([]part{{numbers: 9}}, lists(6)...)...)}
}

// thing is one of the three that are said.
type thing struct {
	name    string
	first   byte
	parts   []part
	write   func(any) (string, bool)
	read    func(string) (any, bool)
	nothing any
}

func thingOf[T any](name string, first byte, parts []part, write func(T) (string, bool), read func(string) (T, bool)) thing {
	var nothing T
	return thing{
		name: name, first: first, parts: parts, nothing: nothing,
		write: func(x any) (string, bool) { return write(x.(T)) },
		read:  func(s string) (any, bool) { return read(s) },
	}
}

func things() []thing {
	return []thing{
		thingOf("Letter", 1, letterParts(), Letter, ReadLetter),
		thingOf("Mixing", 2, mixingParts(), Mixing, ReadMixing),
		thingOf("Passed", 3, passedParts(), Passed, ReadPassed),
	}
}

// span is where a list stands in a text: its count, and behind it its items, up to
// end.
type span struct {
	at, end, count int
	list           part
}

// spansOf answers the lists of the parts that stand in s from at on, where the parts
// end, and whether they stand there at all.
func spansOf(s string, at int, parts []part) (l []span, end int, ok bool) {
	for _, p := range parts {
		if p.most == 0 {
			if at += 8 * p.numbers; at > len(s) {
				return nil, 0, false
			}
			continue
		}
		if at+2 > len(s) {
			return nil, 0, false
		}
		here := span{at: at, count: int(binary.BigEndian.Uint16([]byte(s[at:]))), list: p}
		if here.count > p.most {
			return nil, 0, false
		}
		at += 2
		for range here.count {
			inner, behind, ok := spansOf(s, at, p.item)
			if !ok {
				return nil, 0, false
			}
			l, at = append(l, inner...), behind
		}
		here.end = at
		l = append(l, here)
	}
	return l, at, true
}

func (x thing) spans(s string) []span {
	l, _, _ := spansOf(s, 1, x.parts)
	return l
}

// isSaid answers by the chapter's words whether s is the bytes of such a thing.
func (x thing) isSaid(s string) bool {
	if s == "" || s[0] != x.first {
		return false
	}
	_, end, ok := spansOf(s, 1, x.parts)
	return ok && end == len(s)
}

// leastBytes are those of the parts with no items in any list.
func leastBytes(parts []part) string {
	var s strings.Builder
	for _, p := range parts {
		if p.most == 0 {
			s.WriteString(strings.Repeat("\x00", 8*p.numbers))
		} else {
			s.WriteString("\x00\x00")
		}
	}
	return s.String()
}

// checkRead holds what is read of s against the chapter's words, and what is written
// of that against s; it answers whether something was read.
func checkRead(t *testing.T, x thing, s string) bool {
	t.Helper()
	value, ok := x.read(s)
	if want := x.isSaid(s); ok != want {
		t.Fatalf("Read%s of %x is %t, want %t", x.name, shortened(s), ok, want)
	}
	if !ok {
		if !reflect.DeepEqual(value, x.nothing) {
			t.Fatalf("Read%s of %x is false, and %v", x.name, shortened(s), value)
		}
		return false
	}
	if again, ok := x.write(value); !ok || again != s {
		t.Fatalf("Read%s of %x is %v, which is written as %x and %t", x.name, shortened(s), value, again, ok)
	}
	return true
}

// checkUnread checks that nothing is read of s, whatever stands there.
func checkUnread(t *testing.T, x thing, s, why string) {
	t.Helper()
	if checkRead(t, x, s) {
		t.Fatalf("%s: Read%s of %x reads something", why, x.name, shortened(s))
	}
}

func shortened(s string) string {
	return s[:min(len(s), 2000)]
}

// checkSaid holds the bytes of a value, and what is read of them, against want.
func checkSaid(t *testing.T, x thing, value any, want string) {
	t.Helper()
	s, ok := x.write(value)
	if !ok || s != want {
		t.Fatalf("%s of %v is %x and %t, want %x", x.name, value, s, ok, want)
	}
	if again, ok := x.read(s); !ok || !reflect.DeepEqual(again, value) {
		t.Fatalf("Read%s of %x is %v and %t, want %v", x.name, s, again, ok, value)
	}
}

// checkUnsaid checks that a list of the value is too long.
func checkUnsaid(t *testing.T, x thing, value any, why string) {
	t.Helper()
	if s, ok := x.write(value); s != "" || ok {
		t.Fatalf("%s: %s is %x and %t", why, x.name, shortened(s), ok)
	}
}

// said is a thing, a value of it, and its bytes.
type said struct {
	thing
	value any
	bytes string
}

// samples are values of all shapes: of no items, of some, and of as many as may be,
// with lists of numbers of all lengths.
func samples() []said {
	letter, mixing, passed := things()[0], things()[1], things()[2]
	var l []said
	n := &numbers{}
	for _, count := range []int{0, 1, 2, 7, 30, 62, 63, 64} {
		x := n.letter(count)
		l = append(l, said{letter, x, wantLetter(x)})
	}
	for _, c := range [][3]int{{0, 0, 0}, {0, 0, 1}, {1, 0, 0}, {0, 1, 0}, {1, 1, 3}, {2, 3, 5}, {3, 2, 60}, {2, 8, 40}, {8, 0, 13}, {0, 8, 59}, {8, 8, 62}} {
		x := n.mixing(c[0], c[1], c[2])
		l = append(l, said{mixing, x, wantMixing(x)})
	}
	for _, c := range [][2]int{{0, 0}, {1, 0}, {1, 5}, {2, 61}, {3, 1}, {7, 30}, {8, 20}} {
		x := n.passed(c[0], c[1])
		l = append(l, said{passed, x, wantPassed(x)})
	}
	return l
}

// dice hand out numbers of a rule, others for another start.
type dice struct{ state uint64 }

func (d *dice) below(n int) int {
	d.state += 0x9e3779b97f4a7c15
	x := (d.state ^ d.state>>30) * 0xbf58476d1ce4e5b9
	x = (x ^ x>>27) * 0x94d049bb133111eb
	return int((x ^ x>>31) % uint64(n))
}

func (d *dice) bytes(count int) string {
	b := make([]byte, count)
	for i := range b {
		b[i] = byte(d.below(256))
	}
	return string(b)
}

// text answers the parts with lists of counts up to most each, and any numbers.
func (d *dice) text(parts []part, most int) string {
	var s strings.Builder
	for _, p := range parts {
		if p.most == 0 {
			s.WriteString(d.bytes(8 * p.numbers))
			continue
		}
		count := d.below(min(p.most, most) + 1)
		s.WriteString(wantCount(count))
		for range count {
			s.WriteString(d.text(p.item, most))
		}
	}
	return s.String()
}
