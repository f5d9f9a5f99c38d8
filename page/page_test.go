package page

import (
	"bytes"
	"math"
	"math/rand"
	"slices"
	"strings"
	"testing"

	"sapwood/api"
	"sapwood/sum"
)

// two are the bytes of a number in two bytes.
func two(n int) string { return string([]byte{byte(n >> 8), byte(n)}) }

// text are the bytes of a string with its length before it.
func text(s string) string { return two(len(s)) + s }

// long makes a string of some size in which neighbouring bytes differ.
func long(size int) string {
	b := make([]byte, size)
	for i := range b {
		b[i] = byte(7*i + 1)
	}
	return string(b)
}

// short makes a cell that contains its value, ref one that refers to it.
func short(key, value string) Cell         { return Cell{Key: key, Value: value} }
func ref(key string, size, start int) Cell { return Cell{Key: key, Size: size, Start: start} }

// leaf, branch and piece make a page of each kind.
func leaf(cells ...Cell) Page        { return Page{Kind: 1, Cells: cells} }
func branch(kids ...Kid) Page        { return Page{Kind: 2, Kids: kids} }
func piece(of string, next int) Page { return Page{Kind: 3, Piece: of, Next: next} }

// The same as bytes, written as the chapter says, without any check.
func shortBytes(key, value string) string         { return text(key) + "\x00" + text(value) }
func refBytes(key string, size, start int) string { return text(key) + "\x01" + two(size) + two(start) }
func kidBytes(key string, page int) string        { return text(key) + two(page) }
func pieceBytes(of string, next int) string       { return "\x03" + text(of) + two(next) }
func leafBytes(cells ...string) string            { return "\x01" + counted(cells) }
func branchBytes(kids ...string) string           { return "\x02" + counted(kids) }

func counted(parts []string) string {
	return string([]byte{byte(len(parts))}) + strings.Join(parts, "")
}

// sealed fills what a page begins with up to 252 bytes by zeros, and adds the checksum, bit by bit as chapter 2 defines it.
func sealed(start string) []byte {
	b := make([]byte, 252)
	copy(b, start)
	n := uint32(0xffffffff)
	for _, x := range b {
		n ^= uint32(x) << 24
		for range 8 {
			if n>>31 == 1 {
				n = n<<1 ^ 0x04c11db7
			} else {
				n <<= 1
			}
		}
	}
	n = ^n
	return append(b, byte(n>>24), byte(n>>16), byte(n>>8), byte(n))
}

// same compares pages; a nil list and an empty one are equal.
func same(p, q Page) bool {
	return p.Kind == q.Kind && slices.Equal(p.Cells, q.Cells) && slices.Equal(p.Kids, q.Kids) && p.Piece == q.Piece && p.Next == q.Next
}

// known is a page with the bytes before the zeros of its encoding.
type known struct {
	page  Page
	bytes string
}

// valid are pages of each kind, at the limits of each field and inside of them.
func valid() []known {
	key23, key24 := long(23), long(24)
	return []known{
		{leaf(), "\x01\x00"},
		{leaf(short("a", "v")), "\x01\x01\x00\x01a\x00\x00\x01v"},
		{leaf(short("a", "v"), ref("b", 25, 511)), "\x01\x02\x00\x01a\x00\x00\x01v\x00\x01b\x01\x00\x19\x01\xff"},
		{leaf(short("a", "")), "\x01\x01\x00\x01a\x00\x00\x00"},
		{leaf(ref("a", 25, 2)), "\x01\x01\x00\x01a\x01\x00\x19\x00\x02"},
		{leaf(ref("a", 26, 3)), "\x01\x01\x00\x01a\x01\x00\x1a\x00\x03"},
		{leaf(ref("a", 399, 510)), "\x01\x01\x00\x01a\x01\x01\x8f\x01\xfe"},
		{leaf(ref("a", 400, 511)), "\x01\x01\x00\x01a\x01\x01\x90\x01\xff"},
		{leaf(ref("a", 256, 256), ref("b", 256, 256)), leafBytes(refBytes("a", 256, 256), refBytes("b", 256, 256))},
		{leaf(short(key23, long(23))), leafBytes(shortBytes(key23, long(23)))},
		{leaf(short(key24, long(24))), leafBytes(shortBytes(key24, long(24)))},
		{leaf(short("\x00", "\x00")), "\x01\x01\x00\x01\x00\x00\x00\x01\x00"},
		{leaf(short("\x00", ""), short("\x00\x00", "\x01"), short("\x7f", "\x00\x00"), short("\x80", "é")),
			leafBytes(shortBytes("\x00", ""), shortBytes("\x00\x00", "\x01"), shortBytes("\x7f", "\x00\x00"), shortBytes("\x80", "é"))},
		{leaf(short("a", "1"), ref("b", 30, 9), short("c", "3")), leafBytes(shortBytes("a", "1"), refBytes("b", 30, 9), shortBytes("c", "3"))},
		{leaf(short(key23+"a", long(24)), short(key23+"b", long(24)), short(key23+"c", long(24)), short(key23+"d", long(24))),
			leafBytes(shortBytes(key23+"a", long(24)), shortBytes(key23+"b", long(24)), shortBytes(key23+"c", long(24)), shortBytes(key23+"d", long(24)))},
		{branch(Kid{"a", 2}, Kid{"b", 511}), "\x02\x02\x00\x01a\x00\x02\x00\x01b\x01\xff"},
		{branch(Kid{"\x00", 300}, Kid{"\xff", 300}), "\x02\x02\x00\x01\x00\x01\x2c\x00\x01\xff\x01\x2c"},
		{branch(Kid{"a", 5}, Kid{"aa", 4}, Kid{"b", 3}), branchBytes(kidBytes("a", 5), kidBytes("aa", 4), kidBytes("b", 3))},
		{branch(Kid{"a", 3}, Kid{"b", 4}, Kid{"c", 5}, Kid{"d", 6}, Kid{"e", 510}),
			branchBytes(kidBytes("a", 3), kidBytes("b", 4), kidBytes("c", 5), kidBytes("d", 6), kidBytes("e", 510))},
		{branch(Kid{key23 + "a", 2}, Kid{key23 + "b", 3}, Kid{key23 + "c", 4}, Kid{key23 + "d", 5}, Kid{key23 + "e", 6}, Kid{key23 + "f", 7}),
			branchBytes(kidBytes(key23+"a", 2), kidBytes(key23+"b", 3), kidBytes(key23+"c", 4), kidBytes(key23+"d", 5), kidBytes(key23+"e", 6), kidBytes(key23+"f", 7))},
		{piece("x", 0), "\x03\x00\x01x\x00\x00"},
		{piece("\x00", 2), "\x03\x00\x01\x00\x00\x02"},
		{piece("ab", 511), "\x03\x00\x02ab\x01\xff"},
		{piece(long(239), 3), pieceBytes(long(239), 3)},
		{piece(long(240), 0), pieceBytes(long(240), 0)},
		{piece(long(240), 510), pieceBytes(long(240), 510)},
	}
}

// invalid are pages with one fault each.
func invalid() []Page {
	a, b := Kid{"a", 2}, Kid{"b", 3}
	out := []Page{
		{}, {Kind: 0, Cells: []Cell{short("a", "v")}}, {Kind: 0, Kids: []Kid{a, b}}, {Kind: 0, Piece: "x"},
		// A kind in one byte would be that of a valid page.
		{Kind: 257}, {Kind: 258, Kids: []Kid{a, b}}, {Kind: 259, Piece: "x"}, {Kind: -255}, {Kind: 1 << 32},
		{Kind: 4}, {Kind: -1}, {Kind: 255}, {Kind: 256}, {Kind: math.MaxInt}, {Kind: math.MinInt},
		{Kind: 4, Cells: []Cell{short("a", "v")}}, {Kind: 4, Kids: []Kid{a, b}}, {Kind: 4, Piece: "x"},

		// Fields that the kind does not use.
		{Kind: 1, Kids: []Kid{a}}, {Kind: 1, Kids: []Kid{a, b}}, {Kind: 1, Kids: []Kid{{}}}, {Kind: 1, Piece: "x"}, {Kind: 1, Next: 2}, {Kind: 1, Next: -1}, {Kind: 1, Next: 1},
		{Kind: 2, Kids: []Kid{a, b}, Cells: []Cell{short("a", "v")}}, {Kind: 2, Kids: []Kid{a, b}, Cells: []Cell{{}}},
		{Kind: 2, Kids: []Kid{a, b}, Piece: "x"}, {Kind: 2, Kids: []Kid{a, b}, Next: 2}, {Kind: 2, Kids: []Kid{a, b}, Next: -1},
		{Kind: 3, Piece: "x", Cells: []Cell{short("a", "v")}}, {Kind: 3, Piece: "x", Cells: []Cell{{}}},
		{Kind: 3, Piece: "x", Kids: []Kid{a, b}}, {Kind: 3, Piece: "x", Kids: []Kid{{}}},
		{Kind: 1, Cells: []Cell{short("a", "v")}, Kids: []Kid{a, b}}, {Kind: 1, Cells: []Cell{short("a", "v")}, Piece: "x"}, {Kind: 1, Cells: []Cell{short("a", "v")}, Next: 2},

		// Too many and too few.
		leaf(short("a", ""), short("b", ""), short("c", ""), short("d", ""), short("e", "")),
		leaf(ref("a", 25, 2), ref("b", 25, 2), ref("c", 25, 2), ref("d", 25, 2), ref("e", 25, 2)),
		branch(), branch(a), branch(a, b, Kid{"c", 2}, Kid{"d", 2}, Kid{"e", 2}, Kid{"f", 2}, Kid{"g", 2}),
		piece("", 0), piece("", 2), piece(long(241), 0), piece(long(241), 2), piece(long(256), 0), piece(long(1<<16+1), 0),

		// What a cell contains.
		leaf(short("a", long(25))), leaf(short("a", long(400))), leaf(short("a", long(1<<16))),
		leaf(Cell{"a", "v", 25, 2}), leaf(Cell{"a", "v", 0, 2}), leaf(Cell{"a", "v", 25, 0}), leaf(Cell{"a", long(25), 25, 2}), leaf(Cell{"a", "v", 1, 0}),
		leaf(ref("a", 0, 2)), leaf(ref("a", 1, 0)), leaf(ref("a", 25, 0)), leaf(ref("a", 0, -1)), leaf(ref("a", -1, 0)),
		leaf(Cell{"a", long(25), 0, 2}), leaf(Cell{"a", "v", -25, -2}),
	}
	for _, size := range []int{-25, -1, 1, 23, 24, 401, 1<<16 + 25, 1<<32 + 25, math.MaxInt, math.MinInt} {
		out = append(out, leaf(ref("a", size, 2)), leaf(short("a", "v"), ref("b", size, 2)))
	}
	for _, n := range []int{-2, -1, 1, 512, 513, 1<<16 + 2, 1<<32 + 2, math.MaxInt, math.MinInt} {
		out = append(out, leaf(ref("a", 25, n)), leaf(short("a", "v"), ref("b", 25, n)))
		out = append(out, branch(Kid{"a", n}, b), branch(a, Kid{"b", n}), piece("x", n))
	}
	out = append(out, branch(Kid{"a", 0}, b), branch(a, Kid{"b", 0}))
	out = append(out, leaf(short("", "v")), leaf(short(long(25), "v")), leaf(ref("", 25, 2)))
	return append(out,
		leaf(short("a", ""), short("b", ""), short("c", ""), short("c", "")), leaf(short("a", ""), short("c", ""), short("b", ""), short("d", "")),
		branch(a, b, Kid{"c", 4}, Kid{"d", 5}, Kid{"e", 6}, Kid{"e", 7}), branch(a, b, Kid{"d", 4}, Kid{"c", 5}, Kid{"e", 6}))
}

// wrongKeys are keys of neighbours that no page may have.
func wrongKeys() [][2]string {
	return [][2]string{
		{"", "a"}, {"a", ""}, {"", ""}, {"\x01", long(25)}, {"a", "b" + long(24)}, {long(25), "b"}, {"\x00", "a" + long(99)},
		{"a", "a"}, {"b", "a"}, {"aa", "a"}, {"a\x00", "a"}, {"\x80", "\x7f"}, {"é", "z"}, {"a", "B"}, {long(24), long(24)}, {long(24), long(23)},
	}
}

// P4.1
func TestKinds(t *testing.T) {
	if Leaf != 1 || Branch != 2 || Chain != 3 {
		t.Errorf("the kinds are %d, %d and %d", Leaf, Branch, Chain)
	}
}

// P4.1, P4.2, P4.3
func TestValidPages(t *testing.T) {
	for _, c := range valid() {
		if !Right(c.page) {
			t.Errorf("Right: %#v is valid", c.page)
		}
		b, err := Encode(c.page)
		if err != api.OK || !bytes.Equal(b, sealed(c.bytes)) {
			t.Errorf("Encode of %#v: %d, %v", c.page, err, b)
		}
		if p, err := Decode(sealed(c.bytes)); err != api.OK || !same(p, c.page) {
			t.Errorf("Decode of the encoding of %#v: %d, %#v", c.page, err, p)
		}
	}
}

// P4.1, R2
func TestInvalidPages(t *testing.T) {
	for _, p := range invalid() {
		if Right(p) {
			t.Errorf("Right: %#v is not valid", p)
		}
		if b, err := Encode(p); err != api.ErrArg || len(b) != 0 {
			t.Errorf("Encode of %#v: %d, %v", p, err, b)
		}
	}
}

// P4.1: the chapter's example, with the checksum as it was computed elsewhere.
func TestExample(t *testing.T) {
	b, err := Encode(Page{Kind: Leaf})
	if err != api.OK || len(b) != 256 || b[0] != 1 || !bytes.Equal(b[1:252], make([]byte, 251)) {
		t.Errorf("Encode: %d, %v", err, b)
	}
	if string(b[252:]) != "\x0c\x76\x77\x81" {
		t.Errorf("the checksum is %x", b[252:])
	}
}

// P4.1, R4
func TestEmptyListsAreNone(t *testing.T) {
	for _, c := range valid() {
		p := c.page
		if len(p.Cells) == 0 {
			p.Cells = []Cell{}
		}
		if len(p.Kids) == 0 {
			p.Kids = make([]Kid, 0, 3)
		}
		if b, err := Encode(p); !Right(p) || err != api.OK || !bytes.Equal(b, sealed(c.bytes)) {
			t.Errorf("Encode of %#v with empty lists: %d", p, err)
		}
	}
}

// agree checks that a page is valid or not in all three functions; start are the bytes that it would begin with.
func agree(t *testing.T, p Page, start string, want bool) {
	t.Helper()
	if Right(p) != want {
		t.Errorf("Right of %.60q: %t", start, !want)
	}
	b, err := Encode(p)
	if want && (err != api.OK || !bytes.Equal(b, sealed(start))) || !want && (err != api.ErrArg || len(b) != 0) {
		t.Errorf("Encode of %.60q: %d, %v", start, err, b)
	}
	if len(start) > 252 {
		return
	}
	q, err := Decode(sealed(start))
	if want && (err != api.OK || !same(p, q)) || !want && (err != api.ErrForm || !same(q, Page{})) {
		t.Errorf("Decode of %.60q: %d, %#v", start, err, q)
	}
}

// P4.1, P4.2: all smaller numbers that two bytes hold and some of the others, in each of the places for a number.
func TestEveryNumber(t *testing.T) {
	for n := range 1 << 16 {
		if n > 1100 && n < 1<<16-20 && n%256 > 2 && n%251 > 0 {
			continue
		}
		number := 2 <= n && n <= 511
		agree(t, leaf(ref("a", 25, n)), leafBytes(refBytes("a", 25, n)), number)
		agree(t, branch(Kid{"a", 2}, Kid{"b", n}), branchBytes(kidBytes("a", 2), kidBytes("b", n)), number)
		agree(t, piece("x", n), pieceBytes("x", n), number || n == 0)
		agree(t, leaf(ref("a", n, 2)), leafBytes(refBytes("a", n, 2)), 25 <= n && n <= 400)
	}
}

// P4.1, P4.2: every length of each string, as far as it fits on a page and beyond.
func TestEveryLength(t *testing.T) {
	for size := range 600 {
		s := long(size)
		agree(t, leaf(short(s, "v")), leafBytes(shortBytes(s, "v")), 1 <= size && size <= 24)
		agree(t, leaf(ref(s, 25, 2)), leafBytes(refBytes(s, 25, 2)), 1 <= size && size <= 24)
		agree(t, leaf(short("a", s)), leafBytes(shortBytes("a", s)), size <= 24)
		agree(t, branch(Kid{"\x00", 2}, Kid{s, 3}), branchBytes(kidBytes("\x00", 2), kidBytes(s, 3)), 1 <= size && size <= 24)
		agree(t, piece(s, 0), pieceBytes(s, 0), 1 <= size && size <= 240)
		agree(t, piece(s, 511), pieceBytes(s, 511), 1 <= size && size <= 240)
	}
}

// P4.1, P4.2: every number of cells and of kids that one byte holds, and more.
func TestEveryCount(t *testing.T) {
	cells, kids := []Cell{}, []Kid{}
	leafStart, branchStart := "", ""
	for n := range 520 {
		count := string([]byte{byte(n)})
		agree(t, leaf(slices.Clone(cells)...), "\x01"+count+leafStart, n <= 4)
		agree(t, branch(slices.Clone(kids)...), "\x02"+count+branchStart, 2 <= n && n <= 6)
		key := two(n)
		cells, kids = append(cells, short(key, "")), append(kids, Kid{key, 2})
		leafStart, branchStart = leafStart+shortBytes(key, ""), branchStart+kidBytes(key, 2)
	}
}

// P4.1, P4.2: every kind that one byte holds.
func TestEveryKind(t *testing.T) {
	for kind := range 256 {
		first := string([]byte{byte(kind)})
		agree(t, Page{Kind: kind}, first, kind == 1)
		agree(t, Page{Kind: kind, Kids: []Kid{{"a", 2}, {"b", 3}}}, first+branchBytes(kidBytes("a", 2), kidBytes("b", 3))[1:], kind == 2)
		agree(t, Page{Kind: kind, Piece: "x", Next: 2}, first+pieceBytes("x", 2)[1:], kind == 3)
	}
}

// refused checks that Decode answers an error and nothing else.
func refused(t *testing.T, b []byte, want api.Errno) {
	t.Helper()
	if p, err := Decode(b); err != want || !same(p, Page{}) {
		t.Errorf("Decode of %.60q: %d, want %d; %#v", b, err, want, p)
	}
}

// P4.2: the number before the cells or kids must be theirs, whatever follows.
func TestWrongCount(t *testing.T) {
	for n := range 256 {
		count := string([]byte{byte(n)})
		if n != 2 {
			refused(t, sealed("\x01"+count+shortBytes("a", "v")+refBytes("b", 25, 2)), api.ErrForm)
		}
		if n != 3 {
			refused(t, sealed("\x02"+count+kidBytes("a", 2)+kidBytes("b", 3)+kidBytes("c", 4)), api.ErrForm)
		}
	}
}

// P4.2, P4.3: sealed bytes that are no encoding, though what they contain looks like that of a valid page.
func TestOtherBytes(t *testing.T) {
	for _, start := range []string{
		"", "\x00\x01", "\x04", "\xff", strings.Repeat("\xff", 252),
		// A value of no bytes that is not in the leaf, though its size and its first page are those of a value that is.
		leafBytes(refBytes("a", 0, 0)), leafBytes(shortBytes("a", "v"), refBytes("b", 0, 0)), leafBytes(refBytes("a", 0, 0), shortBytes("b", "v")),
		// A byte that is neither 0 nor 1, with both of what may follow it, and with nothing.
		leafBytes("\x00\x01a\x02"), leafBytes("\x00\x01a\x02" + text("v")), leafBytes("\x00\x01a\x02" + two(25) + two(2)),
		leafBytes("\x00\x01a\xff"), leafBytes("\x00\x01a\xff" + text("v")), leafBytes("\x00\x01a\xff" + two(25) + two(2)),
		leafBytes("\x00\x01a\x80"), leafBytes("\x00\x01a\x81" + two(25) + two(2)),
		// Lengths of strings in the wrong order of bytes, or of more bytes than are left.
		"\x01\x01\x01\x00a\x00\x00\x01v", "\x01\x01\x00\x01a\x00\x01\x00v", "\x03\x01\x00x\x00\x00", "\x03\xff\xffx\x00\x00", "\x03\x00\xfax",
		"\x01\x01\xff\xffa", "\x02\x02\x00\x01a\x00\x02\xff\xff", "\x01\x01\x00\x01a\x00\xff\xff",
		// Fewer cells or kids than the number says.
		"\x01\x01", "\x01\x02" + shortBytes("a", "v"), "\x02\x02", "\x02\x02" + kidBytes("a", 2), "\x02\x01" + kidBytes("a", 2), "\x03",
		// Kinds that do not fit to what follows.
		"\x02" + leafBytes(shortBytes("a", "v"))[1:], "\x03" + leafBytes(shortBytes("a", "v"))[1:],
		"\x01" + branchBytes(kidBytes("a", 2), kidBytes("b", 3))[1:], "\x01" + pieceBytes("x", 2)[1:],
	} {
		refused(t, sealed(start), api.ErrForm)
	}
	for mark := 1; mark < 256; mark++ {
		refused(t, sealed(leafBytes("\x00\x01a"+string([]byte{byte(mark)})+text("v"))), api.ErrForm)
		if mark > 1 {
			refused(t, sealed(leafBytes("\x00\x01a"+string([]byte{byte(mark)})+two(25)+two(2))), api.ErrForm)
		}
	}
}

// P4.1, P4.2: keys that are valid but not sorted, or one of which is not valid, first or last among others.
func TestWrongKeys(t *testing.T) {
	for _, k := range wrongKeys() {
		agree(t, leaf(short(k[0], "1"), short(k[1], "2")), leafBytes(shortBytes(k[0], "1"), shortBytes(k[1], "2")), false)
		agree(t, leaf(ref(k[0], 25, 2), ref(k[1], 25, 3)), leafBytes(refBytes(k[0], 25, 2), refBytes(k[1], 25, 3)), false)
		agree(t, leaf(short(k[0], "1"), ref(k[1], 25, 3)), leafBytes(shortBytes(k[0], "1"), refBytes(k[1], 25, 3)), false)
		agree(t, leaf(short("\x00", ""), short(k[0], "1"), short(k[1], "2")), leafBytes(shortBytes("\x00", ""), shortBytes(k[0], "1"), shortBytes(k[1], "2")), false)
		agree(t, leaf(short(k[0], "1"), short(k[1], "2"), short("\xff", "")), leafBytes(shortBytes(k[0], "1"), shortBytes(k[1], "2"), shortBytes("\xff", "")), false)
		agree(t, branch(Kid{k[0], 2}, Kid{k[1], 3}), branchBytes(kidBytes(k[0], 2), kidBytes(k[1], 3)), false)
		agree(t, branch(Kid{"\x00", 2}, Kid{k[0], 3}, Kid{k[1], 4}), branchBytes(kidBytes("\x00", 2), kidBytes(k[0], 3), kidBytes(k[1], 4)), false)
		agree(t, branch(Kid{k[0], 2}, Kid{k[1], 3}, Kid{"\xff", 4}), branchBytes(kidBytes(k[0], 2), kidBytes(k[1], 3), kidBytes("\xff", 4)), false)
	}
}

// P4.2: every byte between the end of what is encoded and the checksum must be 0.
func TestBytesBehind(t *testing.T) {
	for _, c := range valid() {
		for at := len(c.bytes); at < 252; at++ {
			for _, x := range []byte{1, 0x80, 0xff} {
				b := make([]byte, 252)
				copy(b, c.bytes)
				b[at] = x
				refused(t, sealed(string(b)), api.ErrForm)
			}
		}
	}
}

// P4.2: the length is looked at first, then the checksum, whether or not what is left over or missing is zero or sealed.
func TestLengths(t *testing.T) {
	refused(t, nil, api.ErrLong)
	for _, c := range valid() {
		b := sealed(c.bytes)
		for _, size := range []int{0, 1, 3, 4, 5, 251, 252, 253, 255} {
			refused(t, b[:size], api.ErrLong)
			refused(t, b[256-size:], api.ErrLong)
		}
		refused(t, append(sealed(c.bytes), 0), api.ErrLong)
		refused(t, append([]byte{0}, b...), api.ErrLong)
		refused(t, append(sealed(c.bytes), b...), api.ErrLong)
		refused(t, sum.Seal(b[:251]), api.ErrLong)
		refused(t, sum.Seal(append(b[:252:252], 0)), api.ErrLong)
		refused(t, sum.Seal(b), api.ErrLong)
	}
}

// P4.2: what is not sealed is no page, whatever it contains.
func TestNotSealed(t *testing.T) {
	refused(t, make([]byte, 256), api.ErrSum)
	refused(t, bytes.Repeat([]byte{0xff}, 256), api.ErrSum)
	for _, start := range []string{"", "\x01", "\x04", "\x01\xff"} {
		b := make([]byte, 256)
		copy(b, start)
		refused(t, b, api.ErrSum)
	}
	for _, c := range valid() {
		for at := range 256 {
			b := sealed(c.bytes)
			b[at]++
			refused(t, b, api.ErrSum)
		}
		b := sealed(c.bytes)
		slices.Reverse(b[252:])
		refused(t, b, api.ErrSum)
	}
}

// inverted returns the bytes with the bits inverted that the pattern has, from a bit on.
func inverted(b []byte, from int, pattern uint32) []byte {
	out := bytes.Clone(b)
	for i := range 32 {
		if at := from + i; pattern>>i&1 == 1 && at < 8*len(out) {
			out[at/8] ^= 0x80 >> (at % 8)
		}
	}
	return out
}

// P4.3: single bits, all of 32 bits, both ends of 32 bits, and others between them, at every place.
func TestInvertedBits(t *testing.T) {
	rnd := rand.New(rand.NewSource(4))
	for _, c := range valid() {
		b := sealed(c.bytes)
		for from := range 8 * 256 {
			for _, pattern := range []uint32{1, 3, 0xff, 0xffffffff, 0x80000001, rnd.Uint32() | 1, rnd.Uint32() | 1} {
				if _, err := Decode(inverted(b, from, pattern)); err != api.ErrSum {
					t.Fatalf("%#v with %x inverted at %d: %d", c.page, pattern, from, err)
				}
			}
		}
	}
}

// anyKeys makes some sorted keys, of few letters so that they are often near each other.
func anyKeys(rnd *rand.Rand, count int) []string {
	keys := []string{}
	for len(keys) < count {
		b := make([]byte, 1+rnd.Intn(24))
		for i := range b {
			b[i] = "\x00a\xff"[rnd.Intn(3)]
		}
		keys = append(keys, string(b))
		slices.Sort(keys)
		keys = slices.Compact(keys)
	}
	return keys
}

func anyText(rnd *rand.Rand, least, most int) string {
	b := make([]byte, least+rnd.Intn(most-least+1))
	rnd.Read(b)
	return string(b)
}

// anyPage makes some valid page, with the bytes that its encoding begins with.
func anyPage(rnd *rand.Rand) known {
	number := func() int { return 2 + rnd.Intn(510) }
	switch rnd.Intn(3) {
	case 0:
		cells, parts := []Cell{}, []string{}
		for _, key := range anyKeys(rnd, rnd.Intn(5)) {
			if rnd.Intn(2) == 0 {
				c := short(key, anyText(rnd, 0, 24))
				cells, parts = append(cells, c), append(parts, shortBytes(key, c.Value))
			} else {
				c := ref(key, 25+rnd.Intn(376), number())
				cells, parts = append(cells, c), append(parts, refBytes(key, c.Size, c.Start))
			}
		}
		return known{leaf(cells...), leafBytes(parts...)}
	case 1:
		kids, parts := []Kid{}, []string{}
		for _, key := range anyKeys(rnd, 2+rnd.Intn(5)) {
			k := Kid{key, number()}
			kids, parts = append(kids, k), append(parts, kidBytes(key, k.Page))
		}
		return known{branch(kids...), branchBytes(parts...)}
	}
	p := piece(anyText(rnd, 1, 240), number()*rnd.Intn(2))
	return known{p, pieceBytes(p.Piece, p.Next)}
}

// P4.1, P4.3
func TestManyPages(t *testing.T) {
	rnd := rand.New(rand.NewSource(5))
	for range 5000 {
		c := anyPage(rnd)
		agree(t, c.page, c.bytes, true)
	}
}

// accepts checks P4.3 for sealed bytes: they are refused, or they are what Encode makes of the page that they are taken for.
func accepts(t *testing.T, b []byte) bool {
	t.Helper()
	p, err := Decode(b)
	if err == api.ErrForm && same(p, Page{}) {
		return false
	}
	again, wrong := Encode(p)
	if err != api.OK || !Right(p) || wrong != api.OK || !bytes.Equal(again, b) {
		t.Errorf("Decode of %q: %d, %#v", b, err, p)
	}
	return true
}

// P4.3: valid pages with a few other bytes, sealed again.
func TestNothingElse(t *testing.T) {
	rnd := rand.New(rand.NewSource(6))
	taken, left := 0, 0
	for range 40000 {
		c := anyPage(rnd)
		b := []byte(c.bytes)
		for range 1 + rnd.Intn(2) {
			b[rnd.Intn(len(b))] ^= 1 << rnd.Intn(8)
		}
		if accepts(t, sealed(string(b))) {
			taken++
		} else {
			left++
		}
	}
	if taken < 100 || left < 100 {
		t.Errorf("%d were accepted and %d refused: the test shows too little", taken, left)
	}
}

// copied copies a page with room behind its lists, which is full of other cells and kids.
func copied(p Page) (Page, []Cell, []Kid) {
	cells := append(slices.Clone(p.Cells), short("zy", "1"), short("zz", "2"))
	kids := append(slices.Clone(p.Kids), Kid{"zy", 8}, Kid{"zz", 9})
	n, m := len(p.Cells), len(p.Kids)
	p.Cells, p.Kids = cells[:n], kids[:m]
	return p, cells, kids
}

// R3: a page is neither changed nor is the room behind its lists, and that room is not read.
func TestPagesAreNotChanged(t *testing.T) {
	pages := invalid()
	for _, c := range valid() {
		pages = append(pages, c.page)
	}
	for _, p := range pages {
		given, cells, kids := copied(p)
		_, keptCells, keptKids := copied(p)
		want, wantErr := Encode(p)
		right := Right(given)
		b, err := Encode(given)
		if !same(given, p) || !slices.Equal(cells, keptCells) || !slices.Equal(kids, keptKids) {
			t.Errorf("%#v was changed", p)
		}
		if right != Right(p) || err != wantErr || !bytes.Equal(b, want) {
			t.Errorf("%#v: the room behind the lists was read", p)
		}
	}
}

// R3: bytes are neither changed nor kept, and what is behind them is neither read nor changed.
func TestBytesAreNotChanged(t *testing.T) {
	for _, c := range valid() {
		room := append(sealed(c.bytes), "behind"...)
		kept := bytes.Clone(room)
		p, err := Decode(room[:256])
		if err != api.OK || !same(p, c.page) || !bytes.Equal(room, kept) {
			t.Errorf("Decode of %#v with bytes behind: %d", c.page, err)
		}
		refused(t, room[:255], api.ErrLong)
		for i := range room {
			room[i] = 0xaa
		}
		if !same(p, c.page) {
			t.Errorf("the page shares memory with the bytes: %#v, was %#v", p, c.page)
		}
		b := sealed("\x04" + c.bytes[1:])
		refused(t, b, api.ErrForm)
		if !bytes.Equal(b, sealed("\x04"+c.bytes[1:])) {
			t.Error("the refused bytes were changed")
		}
	}
}

// R3: results share memory neither with the page nor with each other.
func TestResultsAreNew(t *testing.T) {
	for _, c := range valid() {
		first, _ := Encode(c.page)
		second, _ := Encode(c.page)
		first = first[:cap(first)]
		for i := range first {
			first[i] = 0xaa
		}
		third, _ := Encode(c.page)
		if !bytes.Equal(second, sealed(c.bytes)) || !bytes.Equal(third, sealed(c.bytes)) {
			t.Errorf("encodings of %#v share memory", c.page)
		}
		one, _ := Decode(second)
		other, _ := Decode(second)
		one.Cells, one.Kids = one.Cells[:cap(one.Cells)], one.Kids[:cap(one.Kids)]
		for i := range one.Cells {
			one.Cells[i] = short("spoilt", "spoilt")
		}
		for i := range one.Kids {
			one.Kids[i] = Kid{"spoilt", 7}
		}
		if !same(other, c.page) {
			t.Errorf("decoded pages share memory: %#v", other)
		}
	}
}

// R6
func TestSameAnswersAgain(t *testing.T) {
	for _, c := range valid() {
		before, err := Encode(c.page)
		for _, p := range invalid() {
			Encode(p)
		}
		Decode(sealed("\x04"))
		after, again := Encode(c.page)
		if err != again || !bytes.Equal(before, after) {
			t.Errorf("%#v is encoded differently later", c.page)
		}
		if p, err := Decode(before); err != api.OK || !same(p, c.page) {
			t.Errorf("%#v is decoded differently later", c.page)
		}
	}
}

// FuzzAnyBytes takes any bytes as they are, and sealed.
func FuzzAnyBytes(f *testing.F) {
	for _, c := range valid() {
		f.Add([]byte(c.bytes))
		f.Add(sealed(c.bytes))
	}
	f.Add([]byte(nil))
	f.Fuzz(func(t *testing.T, b []byte) {
		if p, err := Decode(b); err != api.OK && !same(p, Page{}) {
			t.Errorf("Decode of %q: %d, %#v", b, err, p)
		}
		accepts(t, sealed(string(b[:min(len(b), 252)])))
	})
}
