package wire

import (
	"fmt"
	"strings"
	"testing"

	"spandrel/api"
)

// TestNoBytesAtAll: and nothing but a first byte.
func TestNoBytesAtAll(t *testing.T) {
	for _, x := range things() {
		checkUnread(t, x, "", "no bytes")
		for first := range 256 {
			checkUnread(t, x, string([]byte{byte(first)}), "one byte")
		}
	}
}

// TestEachBeginning of what was written is nothing.
func TestEachBeginning(t *testing.T) {
	for _, x := range samples() {
		for i := range x.bytes {
			checkUnread(t, x.thing, x.bytes[:i], "a beginning")
		}
	}
}

// TestMoreBehind what was written: a byte of each kind, and many.
func TestMoreBehind(t *testing.T) {
	for _, x := range samples() {
		for last := range 256 {
			checkUnread(t, x.thing, x.bytes+string([]byte{byte(last)}), "a byte more")
		}
		for _, more := range []string{"\x00\x00", strings.Repeat("\x00", 8), strings.Repeat("\xff", 1000), x.bytes, x.bytes[1:]} {
			checkUnread(t, x.thing, x.bytes+more, "bytes more")
			checkUnread(t, x.thing, more+x.bytes, "bytes ahead")
		}
	}
}

// TestAFewerByte: each is left out, by itself.
func TestAFewerByte(t *testing.T) {
	for _, x := range samples() {
		for i := range x.bytes {
			checkUnread(t, x.thing, x.bytes[:i]+x.bytes[i+1:], "a byte fewer")
		}
	}
}

func TestAnotherFirstByte(t *testing.T) {
	for _, x := range samples() {
		for first := range 256 {
			s := string([]byte{byte(first)}) + x.bytes[1:]
			if byte(first) != x.first {
				checkUnread(t, x.thing, s, "another first byte")
			} else if !checkRead(t, x.thing, s) {
				t.Errorf("Read%s of %x reads nothing", x.name, s)
			}
		}
	}
}

// TestAnotherThing: each is read as itself alone, also with the first byte of another.
func TestAnotherThing(t *testing.T) {
	for _, x := range samples() {
		for _, reader := range things() {
			if reader.first == x.first {
				continue
			}
			checkUnread(t, reader, x.bytes, x.name)
			checkRead(t, reader, string([]byte{reader.first})+x.bytes[1:])
		}
	}
}

// withList answers s with another count, and other items, in a list of it.
func withList(s string, l span, count int, items string) string {
	return s[:l.at] + wantCount(count) + items + s[l.end:]
}

// TestOtherCounts: of each list one more and one fewer, and others, while its items
// stay.
func TestOtherCounts(t *testing.T) {
	for _, x := range samples() {
		for _, l := range x.spans(x.bytes) {
			items := x.bytes[l.at+2 : l.end]
			for _, count := range []int{l.count + 1, l.count - 1, l.list.most + 1, l.count + 256, 256 * l.count, 65535, 0x8000 | l.count} {
				if count < 0 || count == l.count {
					continue
				}
				checkUnread(t, x.thing, withList(x.bytes, l, count, items), fmt.Sprint("a count of ", count, " for ", l.count))
			}
		}
	}
}

// TestOtherCountsWithAsManyItems: within the limit they are read, past it not.
func TestOtherCountsWithAsManyItems(t *testing.T) {
	for _, x := range samples() {
		for _, l := range x.spans(x.bytes) {
			item := leastBytes(l.list.item)
			if item == "" {
				t.Fatal("an item has no bytes")
			}
			for _, count := range []int{0, 1, l.list.most - 1, l.list.most} {
				if s := withList(x.bytes, l, count, strings.Repeat(item, count)); !checkRead(t, x.thing, s) {
					t.Fatalf("Read%s of %d items in a list reads nothing", x.name, count)
				}
			}
			for _, count := range []int{l.list.most + 1, l.list.most + 2, 255, 256, 257, 1000} {
				s := withList(x.bytes, l, count, strings.Repeat(item, count))
				checkUnread(t, x.thing, s, fmt.Sprint(count, " items"))
			}
		}
	}
}

// TestTheGreatestCountWithAsManyItems: in each list of one thing each.
func TestTheGreatestCountWithAsManyItems(t *testing.T) {
	n := &numbers{}
	for i, s := range []string{wantLetter(n.letter(1)), wantMixing(n.mixing(1, 1, 1)), wantPassed(n.passed(1, 1))} {
		x := things()[i]
		for _, l := range x.spans(s) {
			item := leastBytes(l.list.item)
			for _, count := range []int{65535, 65535 - l.list.most, 0x8000, 256 * l.list.most, 256} {
				checkUnread(t, x, withList(s, l, count, strings.Repeat(item, count)), fmt.Sprint(count, " items"))
				// A count that is taken for less, as of one of its bytes alone.
				checkUnread(t, x, withList(s, l, count, strings.Repeat(item, count/256)), fmt.Sprint(count, " items"))
				checkUnread(t, x, withList(s, l, count, strings.Repeat(item, count%256)), fmt.Sprint(count, " items"))
			}
			checkUnread(t, x, s[:l.at]+"\xff\xff", "nothing behind a count")
		}
	}
}

// TestItemsOneMoreOrFewer: while the count stays.
func TestItemsOneMoreOrFewer(t *testing.T) {
	for _, x := range samples() {
		for _, l := range x.spans(x.bytes) {
			items := x.bytes[l.at+2 : l.end]
			more := items + strings.Repeat("\x01", len(leastBytes(l.list.item)))
			checkUnread(t, x.thing, withList(x.bytes, l, l.count, more), "an item more")
			if len(l.list.item) == 1 && l.count > 0 {
				fewer := items[:len(items)-len(leastBytes(l.list.item))]
				checkUnread(t, x.thing, withList(x.bytes, l, l.count, fewer), "an item fewer")
			}
		}
	}
}

// TestEachTextOfThreeBytes, and of fewer: they are read just of nothing that is passed.
func TestEachTextOfThreeBytes(t *testing.T) {
	for _, x := range things() {
		for a := range 256 {
			for b := range 256 {
				checkUnread(t, x, string([]byte{byte(a), byte(b)}), "two bytes")
				s := string([]byte{x.first, byte(a), byte(b)})
				if _, ok := x.read(s); ok != (x.first == 3 && a == 0 && b == 0) {
					t.Fatalf("Read%s of %x is %t", x.name, s, ok)
				}
			}
		}
	}
}

// changes are what a byte is changed to: in short texts each byte, and in the longest
// ones a single other one, as they take long.
func changes(b byte, length int) []byte {
	switch {
	case length > 3000:
		return []byte{b ^ 0x81}
	case length > 200:
		return []byte{0, 255, b + 1, b - 1, b ^ 0x80}
	}
	var l []byte
	for each := range 256 {
		l = append(l, byte(each))
	}
	return l
}

// TestOneByteChanged: what is read still, is written as just these bytes.
func TestOneByteChanged(t *testing.T) {
	read, unread := 0, 0
	for _, x := range samples() {
		for place := range x.bytes {
			for _, b := range changes(x.bytes[place], len(x.bytes)) {
				s := []byte(x.bytes)
				s[place] = b
				if checkRead(t, x.thing, string(s)) {
					read++
				} else {
					unread++
				}
			}
		}
	}
	if read < 10000 || unread < 10000 {
		t.Errorf("%d are read, and %d aren't", read, unread)
	}
}

// TestDrawnTexts of all shapes are read, and with bytes changed anywhere they are, or
// not, as the chapter says.
func TestDrawnTexts(t *testing.T) {
	d := &dice{}
	for _, x := range things() {
		for i := range 3000 {
			s := string([]byte{x.first}) + d.text(x.parts, []int{1, 2, 3, 8, 64}[i%5])
			if !checkRead(t, x, s) {
				t.Fatalf("Read%s of %x reads nothing", x.name, s)
			}
			at := d.below(len(s))
			checkRead(t, x, s[:at]+d.bytes(1)+s[at+1:])
			checkRead(t, x, s[:at]+d.bytes(d.below(9))+s[at:])
			checkRead(t, x, s[:at]+"\x00"+s[at:])
			checkRead(t, x, s[:at]+s[min(len(s), at+1+d.below(9)):])
		}
	}
}

// TestAnyTexts: of bytes of which many are 0, so that some are read.
func TestAnyTexts(t *testing.T) {
	d := &dice{}
	for _, x := range things() {
		read := 0
		for i := range 60000 {
			b := []byte(d.bytes(d.below(140)))
			for place := range b {
				if d.below(40) < 30+i%10 {
					b[place] = byte(d.below(20) / 19)
				}
			}
			if checkRead(t, x, string([]byte{x.first})+string(b)) {
				read++
			}
			checkRead(t, x, string(b))
		}
		if read < 20 {
			t.Errorf("Read%s reads %d of them", x.name, read)
		}
	}
}

// TestReadByHand: what is read of bytes that nobody wrote here.
func TestReadByHand(t *testing.T) {
	s := "\x01" + strings.Repeat("\x00\x00\x00\x00\x00\x00\x01\x00", 6) + "\x00\x01\xff\xff\xff\xff\xff\xff\xff\xff\x00\x00"
	x, ok := ReadLetter(s)
	pair := api.Pair{U: 256, V: 256}
	if !ok || x.Box != (api.Box{pair, pair, pair}) || len(x.Proof.Commit) != 1 || x.Proof.Commit[0] != greatest || len(x.Proof.Answers) != 0 {
		t.Errorf("ReadLetter of %x is %v and %t", s, x, ok)
	}
	l, ok := ReadPassed("\x03\x00\x01" + strings.Repeat("\x00", 71) + "\x07" + strings.Repeat("\x00", 12))
	if !ok || len(l) != 1 || l[0].Threes != [api.Width]api.Three{2: {V: 7}} {
		t.Errorf("ReadPassed is %v and %t", l, ok)
	}
}
