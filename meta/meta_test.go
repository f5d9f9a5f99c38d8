package meta

import (
	"bytes"
	"math"
	"math/rand"
	"slices"
	"testing"

	"sapwood/api"
)

// two and four are the bytes of a number in two and in four bytes.
func two(n int) string  { return string([]byte{byte(n >> 8), byte(n)}) }
func four(n int) string { return two(n>>16) + two(n) }

// sealed fills what a meta page begins with up to 248 bytes by zeros, and adds the checksum, bit by bit as chapter 2 defines it.
func sealed(start string) string {
	b := make([]byte, 248)
	copy(b, start)
	n := uint32(0xffffffff)
	for _, x := range b {
		n ^= uint32(x) << 24
		for range 8 {
			if n>>31 == 1 {
				n = n<<1 ^ 0x04c11db7
			} else {
				n <<= 1
			}
		}
	}
	return string(b) + four(int(^n))
}

// written is the encoding of a meta page, written as the chapter says, without any check.
func written(epoch, root int) []byte {
	return []byte(sealed(four(epoch)+"sapwood"+two(root)) + four(epoch))
}

// epochs and roots are the valid numbers at the limits and inside of them, with each byte of a number in use.
func epochs() []int {
	return []int{1, 2, 3, 4, 5, 255, 256, 257, 65535, 65536, 1<<24 - 1, 1 << 24, 0x01020304, 0x12345678, 1<<30 - 2, 1<<30 - 1, 1 << 30}
}

func roots() []int { return []int{0, 2, 3, 7, 255, 256, 257, 510, 511} }

// wrongEpochs and wrongRoots are not valid; some of them would be, in four or in two bytes.
func wrongEpochs() []int {
	return []int{0, -1, -2, -1 << 30, 1<<30 + 1, 1<<30 + 2, 1<<31 - 1, 1 << 31, 1<<32 - 1, 1 << 32, 1<<32 + 1, 1<<32 + 1<<30, 1 - 1<<32, math.MaxInt, math.MinInt, math.MinInt + 1}
}

func wrongRoots() []int {
	return []int{1, 512, 513, -1, -2, -511, 1<<15 + 2, 1<<16 - 1, 1 << 16, 1<<16 + 2, 1<<16 + 511, 2 - 1<<16, 1 << 32, 1<<32 + 2, math.MaxInt, math.MinInt, math.MinInt + 2}
}

// refused checks that Decode returns ErrForm and nothing else.
func refused(t *testing.T, b []byte, what string) {
	t.Helper()
	if m, err := Decode(b); err != api.ErrForm || m != (Meta{}) {
		t.Errorf("Decode of %s: %v, %d", what, m, err)
	}
}

// agree checks that a meta page is valid or not in all functions that can be given it or its bytes.
func agree(t *testing.T, m Meta, want bool) {
	t.Helper()
	if Right(m) != want {
		t.Errorf("Right of %v: %t", m, !want)
	}
	b, err := Encode(m)
	if want && (err != api.OK || !bytes.Equal(b, written(m.Epoch, m.Root))) || !want && (err != api.ErrArg || len(b) != 0) {
		t.Errorf("Encode of %v: %d, %v", m, err, b)
	}
	// Four and two bytes do not hold all numbers.
	if m.Epoch != int(uint32(m.Epoch)) || m.Root != int(uint16(m.Root)) {
		return
	}
	got, err := Decode(written(m.Epoch, m.Root))
	if want && (err != api.OK || got != m) || !want && (err != api.ErrForm || got != (Meta{})) {
		t.Errorf("Decode of the bytes of %v: %v, %d", m, got, err)
	}
}

// P6.1, R2
func TestValidAndInvalid(t *testing.T) {
	for _, epoch := range epochs() {
		for _, root := range roots() {
			agree(t, Meta{epoch, root}, true)
		}
		for _, root := range wrongRoots() {
			agree(t, Meta{epoch, root}, false)
		}
	}
	for _, epoch := range wrongEpochs() {
		for _, root := range slices.Concat(roots(), wrongRoots()) {
			agree(t, Meta{epoch, root}, false)
		}
	}
}

// P6.1: every root that two bytes hold.
func TestEveryRoot(t *testing.T) {
	for root := range 1 << 16 {
		agree(t, Meta{6, root}, root == 0 || 2 <= root && root <= 511)
	}
}

// P6.1: many valid meta pages.
func TestManyEpochs(t *testing.T) {
	rnd := rand.New(rand.NewSource(6))
	for range 5000 {
		agree(t, Meta{1 + rnd.Intn(1<<30), 2 + rnd.Intn(510)}, true)
	}
}

// P6.1: whole encodings, with checksums that were computed elsewhere.
func TestKnownEncodings(t *testing.T) {
	for _, c := range []struct {
		meta       Meta
		start, end string
	}{
		{Meta{1, 0}, "\x00\x00\x00\x01sapwood\x00\x00", "\x1c\x8b\x8f\xd7\x00\x00\x00\x01"},
		{Meta{4, 7}, "\x00\x00\x00\x04sapwood\x00\x07", "\x22\x55\xae\x0b\x00\x00\x00\x04"},
		{Meta{1 << 30, 511}, "\x40\x00\x00\x00sapwood\x01\xff", "\x63\xa8\xcb\xe7\x40\x00\x00\x00"},
	} {
		want := []byte(c.start + string(make([]byte, 235)) + c.end)
		if b, err := Encode(c.meta); err != api.OK || !bytes.Equal(b, want) {
			t.Errorf("Encode of %v: %d, %q", c.meta, err, b)
		}
		if m, err := Decode(want); err != api.OK || m != c.meta {
			t.Errorf("Decode of %q: %v, %d", want, m, err)
		}
	}
}

// P6.1: Slot, also of numbers that are no epochs.
func TestSlot(t *testing.T) {
	for _, even := range []int{0, 2, 4, 1 << 30, -2, -4, -1 << 30, math.MinInt, math.MaxInt - 1} {
		if Slot(even) != 0 {
			t.Errorf("Slot of %d: %d", even, Slot(even))
		}
	}
	for _, odd := range []int{1, 3, 5, 1<<30 - 1, 1<<30 + 1, -1, -3, 1 - 1<<30, math.MinInt + 1, math.MaxInt} {
		if Slot(odd) != 1 {
			t.Errorf("Slot of %d: %d", odd, Slot(odd))
		}
	}
}

// P6.1, R1: bytes of every length but the right one, whatever is left over or missing.
func TestLengths(t *testing.T) {
	refused(t, nil, "nothing")
	refused(t, []byte{}, "no bytes")
	for _, m := range []Meta{{1, 0}, {4, 7}, {1 << 30, 511}} {
		b := written(m.Epoch, m.Root)
		for size := range 256 {
			refused(t, b[:size], "a beginning")
			refused(t, b[256-size:], "an end")
		}
		refused(t, append(bytes.Clone(b), 0), "one more byte behind")
		refused(t, append(bytes.Clone(b), b[255]), "the last byte twice")
		refused(t, append([]byte{0}, b...), "one more byte before")
		refused(t, append(bytes.Clone(b), b...), "two encodings")
		// With an epoch at the end, at the length that is not the right one, too.
		refused(t, slices.Concat(b[:251], b[252:]), "one byte fewer of the checksum")
		refused(t, slices.Concat(b[:247], b[248:]), "one zero byte fewer")
		refused(t, slices.Concat(b[:248], []byte{0}, b[248:]), "one zero byte more")
		refused(t, slices.Concat(b, make([]byte, 1<<20)), "a meta page in many bytes")
	}
}

// part is a part of an encoding.
type part struct {
	name     string
	from, to int
}

func parts() []part {
	return []part{{"epoch", 0, 4}, {"letters", 4, 11}, {"root", 11, 13}, {"zero bytes", 13, 248}, {"checksum", 248, 252}, {"last epoch", 252, 256}}
}

// P6.1: each byte of each part changed to every other value, and each part replaced as a whole, with nothing else changed.
func TestChangedParts(t *testing.T) {
	b, other := written(0x01020304, 0x0102), written(0x05060708, 0x0103)
	if m, err := Decode(b); m != (Meta{0x01020304, 0x0102}) || err != api.OK {
		t.Fatalf("Decode of the unchanged bytes: %v, %d", m, err)
	}
	for _, p := range parts() {
		for at := p.from; at < p.to; at++ {
			for x := 1; x < 256; x++ {
				changed := bytes.Clone(b)
				changed[at] ^= byte(x)
				refused(t, changed, "a changed "+p.name)
			}
		}
		for _, with := range [][]byte{make([]byte, 256), bytes.Repeat([]byte{0xff}, 256), other} {
			changed := slices.Concat(b[:p.from], with[p.from:p.to], b[p.to:])
			if !bytes.Equal(changed, b) {
				refused(t, changed, "another "+p.name)
			}
		}
		changed := bytes.Clone(b)
		slices.Reverse(changed[p.from:p.to])
		if !bytes.Equal(changed, b) {
			refused(t, changed, "a reversed "+p.name)
		}
	}
}

// P6.1: each byte before the checksum changed, and the checksum made right again; only another page number is another meta page.
func TestChangedPartsSealed(t *testing.T) {
	const epoch, root = 0x01020304, 0x0102
	start := written(epoch, root)[:248]
	for _, p := range parts()[:4] {
		for at := p.from; at < p.to; at++ {
			for _, x := range []byte{1, 2, 4, 0x20, 0x80, 0xff} {
				changed := bytes.Clone(start)
				changed[at] ^= x
				b := []byte(sealed(string(changed)) + four(epoch))
				got := int(changed[11])<<8 | int(changed[12])
				if p.name == "root" && 2 <= got && got <= 511 {
					if m, err := Decode(b); m != (Meta{epoch, got}) || err != api.OK {
						t.Errorf("Decode with the root %d: %v, %d", got, m, err)
					}
					continue
				}
				refused(t, b, "a changed "+p.name+", sealed")
			}
		}
	}
}

// P6.1: letters that are almost the right ones, with a right checksum.
func TestOtherLetters(t *testing.T) {
	for _, letters := range []string{"Sapwood", "SAPWOOD", "doowpas", "sapwoo\x00", "\x00\x00\x00\x00\x00\x00\x00", "sapwooe", "tapwood", "sapw00d"} {
		refused(t, []byte(sealed(four(5)+letters+two(7))+four(5)), letters)
	}
	// A string with its length before it, as layer 1 encodes it, and no letters at all.
	refused(t, []byte(sealed(four(5)+"\x00\x07sapwood"+two(7))+four(5)), "letters behind their number")
	refused(t, []byte(sealed(four(5)+two(7))+four(5)), "no letters")
}

// P6.1: both epochs are valid and the checksum is right, but they are unlike each other.
func TestUnlikeEpochs(t *testing.T) {
	for _, first := range epochs() {
		for _, last := range slices.Concat(epochs(), wrongEpochs()) {
			if uint32(first) == uint32(last) {
				continue
			}
			b := []byte(sealed(four(first)+"sapwood"+two(7)) + four(last))
			refused(t, b, "unlike epochs")
			if l := Newest(b, b); len(l) != 0 {
				t.Errorf("Newest of unlike epochs: %v", l)
			}
		}
	}
}

// P6.1: bytes that have nothing of a meta page, and some that are sealed as a page of layer 4 is.
func TestOtherBytes(t *testing.T) {
	refused(t, make([]byte, 256), "zero bytes")
	refused(t, bytes.Repeat([]byte{0xff}, 256), "ff")
	refused(t, bytes.Repeat([]byte("sapwood"), 37)[:256], "letters alone")
	refused(t, []byte(sealed("")+four(0)), "sealed zero bytes")
	b := written(5, 7)
	refused(t, slices.Concat(b[252:], b[:252]), "the last epoch before the others")
	slices.Reverse(b[248:252])
	refused(t, b, "the checksum with its lowest byte first")
	// The checksum behind the last epoch, where that of a page is.
	refused(t, []byte(sealed(four(5) + "sapwood" + two(7))[:248]+four(5)+sealed(four(5) + "sapwood" + two(7))[248:]), "the checksum at the end")
}

// newest checks what Newest returns for two pages.
func newest(t *testing.T, a, b []byte, want ...Meta) {
	t.Helper()
	if l := Newest(a, b); !slices.Equal(l, want) {
		t.Errorf("Newest: %v, not %v", l, want)
	}
}

// P6.2: the newer one first and second, near and far.
func TestNewest(t *testing.T) {
	for _, even := range []int{2, 4, 6, 1 << 8, 1 << 16, 1<<30 - 2, 1 << 30} {
		for _, odd := range []int{1, 3, 5, 7, 255, 257, 65535, 65537, 1<<30 - 1} {
			a, b := written(even, 7), written(odd, 0)
			if even > odd {
				newest(t, a, b, Meta{even, 7}, Meta{odd, 0})
			} else {
				newest(t, a, b, Meta{odd, 0}, Meta{even, 7})
			}
		}
	}
	// The root does not matter for the order.
	newest(t, written(4, 2), written(3, 511), Meta{4, 2}, Meta{3, 511})
	newest(t, written(4, 511), written(5, 2), Meta{5, 2}, Meta{4, 511})
	newest(t, written(4, 0), written(5, 0), Meta{5, 0}, Meta{4, 0})
}

// P6.2: meta pages on the wrong slot, one or both.
func TestWrongSlots(t *testing.T) {
	four, five, six, seven := written(4, 7), written(5, 0), written(6, 9), written(7, 511)
	newest(t, five, four)
	newest(t, seven, six)
	newest(t, five, five, Meta{5, 0})
	newest(t, four, four, Meta{4, 7})
	newest(t, five, seven, Meta{7, 511})
	newest(t, seven, five, Meta{5, 0})
	newest(t, four, six, Meta{4, 7})
	newest(t, six, four, Meta{6, 9})
}

// P6.2: one or both are not accepted, for each of the reasons, with the other one right or on the wrong slot.
func TestNotAccepted(t *testing.T) {
	four, five := written(4, 7), written(5, 9)
	torn := slices.Concat(written(6, 9)[:100], four[100:])
	flipped := bytes.Clone(five)
	flipped[40] ^= 1
	bad := [][]byte{nil, {}, make([]byte, 256), four[:255], five[:255], append(bytes.Clone(four), 0), append(bytes.Clone(five), 0), torn, flipped,
		written(0, 7), written(1<<30+1, 7), written(1<<30+2, 7), written(4, 1), written(5, 1), written(4, 512), written(5, 512)}
	for _, x := range bad {
		newest(t, x, five, Meta{5, 9})
		newest(t, four, x, Meta{4, 7})
		newest(t, x, four)
		newest(t, five, x)
		for _, y := range bad {
			newest(t, x, y)
		}
	}
}

// told makes meta pages of some epochs.
func told(epochs ...int) []Meta {
	out := []Meta{}
	for i, epoch := range epochs {
		out = append(out, Meta{epoch, i})
	}
	return out
}

// next checks what Next returns.
func next(t *testing.T, want, kept int, epochs ...int) {
	t.Helper()
	if n := Next(kept, told(epochs...)); n != want {
		t.Errorf("Next of %d and %v: %d, not %d", kept, epochs, n, want)
	}
}

// P6.2: the chapter's examples, and R4.
func TestNextExamples(t *testing.T) {
	next(t, 5, 4, 4, 3)
	next(t, 6, 3, 4, 3)
	if Next(0, nil) != 1 || Next(0, []Meta{}) != 1 || Next(7, nil) != 8 || Next(7, make([]Meta, 0, 3)) != 8 {
		t.Error("Next with nothing told")
	}
}

// P6.2: below, at and above kept, and kept negative.
func TestNext(t *testing.T) {
	next(t, 2, 1)
	next(t, 5, 4, 1, 2, 3)
	next(t, 5, 4, 4)
	next(t, 7, 4, 5)
	next(t, 7, 4, 6)
	next(t, 9, 4, 7)
	next(t, 6, 5, 0, -7)
	next(t, 8, 5, 3, 7, 6, 1)
	next(t, 8, 5, 7, 3)
	next(t, 0, -1)
	next(t, -1, -2)
	next(t, -2, -3)
	next(t, 0, -1, -5, -1)
	next(t, 2, -1, 0)
	next(t, 2, -1, 1)
	next(t, 1, -2, -1)
	next(t, 1, -2, 0)
	next(t, -3, -6, -4)
	next(t, 5, -1000, 4)
	next(t, 7, -1000, 5)
	// An epoch that would no longer be valid, and epochs told that no meta page has.
	next(t, 1<<30+1, 1<<30, 1<<30, 1<<30-1)
	next(t, 1<<30+2, 1<<30-1, 1<<30)
	next(t, 1<<30+1, 1<<30, 0, -1, -1<<30)
	next(t, 1<<40+1, 2, 1<<40)
	next(t, 1<<40+2, 3, 1<<40)
	next(t, 1<<32+1, 0, 1<<32)
}

// P6.2: the chapter's definition, number by number, for all small numbers.
func TestNextByDefinition(t *testing.T) {
	for kept := -9; kept < 10; kept++ {
		for a := -9; a < 10; a++ {
			for b := -9; b < 10; b++ {
				want := kept + 1
				for want <= a || want <= b || want&1 == kept&1 {
					want++
				}
				next(t, want, kept, a, b)
				next(t, want, kept, b, a, b)
			}
		}
	}
}

// P6.2, R1: at the ends of what an int holds; 0 where no int is above all of them.
func TestNextAtTheEnds(t *testing.T) {
	const most, least = math.MaxInt, math.MinInt
	next(t, most, most-1)
	next(t, most, most-1, 5, most-1)
	next(t, most-1, most-2)
	next(t, most, most-3, most-2)
	next(t, most-1, most-4, most-2)
	next(t, 0, most)
	next(t, 0, most, most, 3)
	next(t, 0, 4, most)
	next(t, 0, 5, most)
	next(t, 0, most-2, most-1)
	next(t, 0, most-1, most)
	next(t, least+1, least)
	next(t, least+2, least+1, least)
	next(t, 1, least, 0)
	next(t, 0, least, most)
	next(t, 0, least+1, most-1)
	next(t, most, least, most-1)
}

// P6.3: every beginning of an encoding over that of a lower epoch, of the same slot and of the other one.
func TestTornWrites(t *testing.T) {
	all := []Meta{}
	for _, epoch := range epochs() {
		all = append(all, Meta{epoch, 0}, Meta{epoch, 7}, Meta{epoch, 511})
	}
	all = append(all, Meta{0x01020306, 7}, Meta{0x010203fe, 7}, Meta{0x01030302, 7}, Meta{0x02020304, 7}, Meta{0x01010101, 7}, Meta{0x02020202, 7})
	for _, older := range all {
		for _, newer := range all {
			if older.Epoch < newer.Epoch {
				torn(t, older, newer)
			}
		}
	}
}

// torn writes every beginning of newer over older; the result must be one of the two, and only if its bytes are.
func torn(t *testing.T, older, newer Meta) {
	t.Helper()
	under, over := written(older.Epoch, older.Root), written(newer.Epoch, newer.Root)
	seen := map[Meta]int{}
	for size := range 257 {
		b := slices.Concat(over[:size], under[size:])
		m, err := Decode(b)
		switch {
		case bytes.Equal(b, under):
			if m != older || err != api.OK {
				t.Errorf("%v over %v, %d bytes: %v, %d", newer, older, size, m, err)
			}
		case bytes.Equal(b, over):
			if m != newer || err != api.OK {
				t.Errorf("%v over %v, %d bytes: %v, %d", newer, older, size, m, err)
			}
		case err != api.ErrForm || m != Meta{}:
			t.Errorf("%v over %v, %d bytes: %v, %d", newer, older, size, m, err)
		}
		seen[m]++
	}
	if seen[older] == 0 || seen[newer] == 0 || seen[Meta{}] < 248 {
		t.Errorf("%v over %v: %v", newer, older, seen)
	}
}

// inverted returns the bytes with the bits inverted that the pattern has, from a bit on.
func inverted(b []byte, from int, pattern uint32) []byte {
	out := bytes.Clone(b)
	for i := range 32 {
		if at := from + i; pattern>>i&1 == 1 && at < 8*len(out) {
			out[at/8] ^= 0x80 >> (at % 8)
		}
	}
	return out
}

// P6.3: single bits, all of 32 bits, both ends of 32 bits, and others between them, at every place.
func TestInvertedBits(t *testing.T) {
	rnd := rand.New(rand.NewSource(7))
	for _, m := range []Meta{{1, 0}, {2, 2}, {4, 7}, {0x01020304, 300}, {1<<30 - 1, 510}, {1 << 30, 511}} {
		b := written(m.Epoch, m.Root)
		for from := range 8 * 256 {
			for _, pattern := range []uint32{1, 3, 0xff, 0xffffffff, 0x80000001, rnd.Uint32() | 1, rnd.Uint32() | 1} {
				refused(t, inverted(b, from, pattern), "inverted bits")
			}
		}
	}
}

// P6.3: many patterns at the start, at the end and around the checksum.
func TestInvertedBitsAtTheEdges(t *testing.T) {
	rnd := rand.New(rand.NewSource(8))
	for _, m := range []Meta{{1, 0}, {4, 7}, {1 << 30, 511}} {
		b := written(m.Epoch, m.Root)
		for _, edge := range []int{0, 8 * 4, 8 * 13, 8 * 248, 8 * 252, 8 * 256} {
			for from := max(0, edge-40); from < min(edge+40, 8*256); from++ {
				for range 60 {
					refused(t, inverted(b, from, rnd.Uint32()|1), "inverted bits at an edge")
				}
			}
		}
	}
}

// P6.3: every value of two neighbouring bytes beside each border of the checksum, and around it.
func TestInvertedBytesAroundTheChecksum(t *testing.T) {
	b := written(4, 7)
	for at := 247; at < 253; at++ {
		for x := 1; x < 1<<16; x++ {
			changed := bytes.Clone(b)
			changed[at] ^= byte(x >> 8)
			changed[at+1] ^= byte(x)
			if m, err := Decode(changed); err != api.ErrForm || m != (Meta{}) {
				t.Fatalf("%x inverted at byte %d: %v, %d", x, at, m, err)
			}
		}
	}
}

// R3: bytes are neither changed nor kept, and what is behind them is neither read nor changed.
func TestBytesAreNotChanged(t *testing.T) {
	room, other := append(written(4, 7), "behind"...), append(written(5, 9), "behind"...)
	keptRoom, keptOther := bytes.Clone(room), bytes.Clone(other)
	if m, err := Decode(room[:256]); m != (Meta{4, 7}) || err != api.OK {
		t.Errorf("Decode with bytes behind: %v, %d", m, err)
	}
	refused(t, room[:255], "all but the last byte")
	refused(t, room, "more bytes")
	l := Newest(room[:256], other[:256])
	newest(t, room[:255], other[:256], Meta{5, 9})
	if !bytes.Equal(room, keptRoom) || !bytes.Equal(other, keptOther) {
		t.Error("the bytes, or what is behind them, were changed")
	}
	for i := range room {
		room[i], other[i] = 0xaa, 0xaa
	}
	if !slices.Equal(l, []Meta{{5, 9}, {4, 7}}) {
		t.Errorf("the meta pages change with the bytes: %v", l)
	}
}

// R3: the list that is told is not changed, and what is behind it is neither read nor changed.
func TestListsAreNotChanged(t *testing.T) {
	room := told(3, 9, 4, 100, 200)
	kept := slices.Clone(room)
	for _, c := range [][3]int{{0, 4, 5}, {1, 4, 5}, {2, 4, 11}, {3, 3, 10}, {4, 3, 102}} {
		if n := Next(c[1], room[:c[0]]); n != c[2] {
			t.Errorf("Next of %d and %v: %d", c[1], room[:c[0]], n)
		}
	}
	if !slices.Equal(room, kept) {
		t.Errorf("the list was changed: %v", room)
	}
}

// R3, R6: results share memory with no other one, and are the same again whatever was called between.
func TestResultsAreNew(t *testing.T) {
	first, _ := Encode(Meta{4, 7})
	second, _ := Encode(Meta{4, 7})
	first = first[:cap(first)]
	for i := range first {
		first[i] = 0xaa
	}
	third, _ := Encode(Meta{4, 7})
	if !bytes.Equal(second, written(4, 7)) || !bytes.Equal(third, second) {
		t.Error("encodings share memory")
	}
	a, b := written(4, 7), written(5, 9)
	l, again := Newest(a, b), Newest(a, b)
	l = l[:cap(l)]
	for i := range l {
		l[i] = Meta{}
	}
	Encode(Meta{0, 1})
	Decode(nil)
	Next(9, again)
	if !slices.Equal(again, []Meta{{5, 9}, {4, 7}}) {
		t.Error("lists of meta pages share memory")
	}
	newest(t, a, b, again...)
}

// FuzzAnyBytes decodes any bytes; what is accepted must be written as the chapter says.
func FuzzAnyBytes(f *testing.F) {
	f.Add(written(1, 0), written(2, 7), 1, 100)
	f.Add(written(1<<30, 511), written(1<<30-1, 2), 1<<30, 253)
	f.Add(written(4, 7), written(6, 9), -1, 3)
	f.Add([]byte{}, make([]byte, 256), 0, 0)
	f.Fuzz(func(t *testing.T, a, b []byte, kept, size int) {
		mixed := append(bytes.Clone(a[:min(max(size, 0), len(a))]), b[min(max(size, 0), len(b)):]...)
		for _, x := range [][]byte{a, b, mixed} {
			m, err := Decode(x)
			if err == api.OK && (!Right(m) || !bytes.Equal(written(m.Epoch, m.Root), x)) || err != api.OK && (err != api.ErrForm || m != Meta{}) {
				t.Errorf("Decode of %q: %v, %d", x, m, err)
			}
		}
		l := Newest(a, b)
		if len(l) > 2 || len(l) == 2 && l[0].Epoch <= l[1].Epoch {
			t.Errorf("Newest: %v", l)
		}
		n := Next(kept, l)
		if kept < math.MaxInt-1 && (n <= kept || Slot(n) == Slot(kept) || len(l) > 0 && n <= l[0].Epoch) {
			t.Errorf("Next of %d and %v: %d", kept, l, n)
		}
	})
}
