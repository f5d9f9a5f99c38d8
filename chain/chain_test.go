package chain

import (
	"math"
	"math/rand"
	"slices"
	"strings"
	"testing"
	"unsafe"

	"sapwood/api"
)

// long makes a string of some size in which neighbouring bytes differ, with zero bytes and bytes beyond ASCII in it.
func long(size int) string {
	b := make([]byte, size)
	for i := range b {
		b[i] = byte(7 * i)
	}
	return string(b)
}

// values are values of some size: of different bytes, of zero bytes alone, of the greatest byte alone, and with zero bytes at the ends and around the border of the pieces.
func values(size int) []string {
	holes := []byte(strings.Repeat("x", size))
	for _, at := range []int{0, 239, 240, size - 1} {
		if 0 <= at && at < size {
			holes[at] = 0
		}
	}
	return []string{long(size), strings.Repeat("\x00", size), strings.Repeat("\xff", size), string(holes)}
}

// known is a size with the lengths of the pieces of its values, as written in the chapter or counted by hand.
type known struct {
	size    int
	lengths []int
}

// sizes are those at the limits and around them; a value of exactly 240 bytes has a full last piece, one of 241 bytes a last piece of one byte.
func sizes() []known {
	return []known{
		{0, nil}, {1, nil}, {23, nil}, {24, nil},
		{25, []int{25}}, {26, []int{26}}, {120, []int{120}}, {239, []int{239}}, {240, []int{240}},
		{241, []int{240, 1}}, {242, []int{240, 2}}, {300, []int{240, 60}}, {399, []int{240, 159}}, {400, []int{240, 160}},
		{401, nil}, {402, nil}, {479, nil}, {480, nil}, {481, nil}, {720, nil}, {1 << 16, nil}, {1<<16 + 25, nil}, {1<<20 + 241, nil},
	}
}

// parts are consecutive parts of some lengths of a string.
func parts(s string, lengths ...int) []string {
	out := []string{}
	for _, n := range lengths {
		out = append(out, s[:n])
		s = s[n:]
	}
	return out
}

// joined checks that Join returns a value.
func joined(t *testing.T, pieces []string, size int, value string) {
	t.Helper()
	if s, err := Join(pieces, size); s != value || err != api.OK {
		t.Errorf("Join of %q to %d bytes: %q, %d", pieces, size, s, err)
	}
}

// refused checks that Join returns an error, and no value beside it (R2).
func refused(t *testing.T, pieces []string, size int, want api.Errno) {
	t.Helper()
	if s, err := Join(pieces, size); s != "" || err != want {
		t.Errorf("Join of %d pieces to %d bytes: %q, %d, not %d", len(pieces), size, s, err, want)
	}
}

// P5.1
func TestPieces(t *testing.T) {
	for _, c := range sizes() {
		for _, value := range values(c.size) {
			if n := Pages(value); n != len(c.lengths) {
				t.Errorf("Pages of %d bytes: %d, not %d", c.size, n, len(c.lengths))
			}
			if got := Cut(value); !slices.Equal(got, parts(value, c.lengths...)) {
				t.Errorf("Cut of %d bytes: %q", c.size, got)
			}
		}
	}
}

// P5.1, P5.3: the chapter's example.
func TestExample(t *testing.T) {
	value := strings.Repeat("x", 240) + "y"
	got := Cut(value)
	if Pages(value) != 2 || len(got) != 2 || got[0] != value[:240] || got[1] != "y" {
		t.Errorf("Pages %d, Cut %q", Pages(value), got)
	}
	joined(t, []string{value[:240], "y"}, 241, value)
}

// P5.1, P5.2, P5.3: values of every size that is cut, and of sizes beside them.
func TestEverySize(t *testing.T) {
	for size := range 1000 {
		for _, value := range values(size) {
			want := []string{}
			switch {
			case 25 <= size && size <= 240:
				want = []string{value}
			case 241 <= size && size <= 400:
				want = []string{value[:240], value[240:]}
			}
			got := Cut(value)
			if Pages(value) != len(want) || !slices.Equal(got, want) {
				t.Errorf("%d bytes: Pages %d, Cut %q", size, Pages(value), got)
			}
			if len(want) == 0 {
				refused(t, got, size, wantedOf(nil, size))
			} else {
				joined(t, got, size, value)
			}
		}
	}
}

// wantedOf is the chapter's definition of what Join returns, by the lengths of the pieces.
func wantedOf(lengths []int, size int) api.Errno {
	switch {
	case size < 25 || size > 400 || len(lengths) > 2:
		return api.ErrLong
	case size <= 240 && slices.Equal(lengths, []int{size}):
		return api.OK
	case size > 240 && slices.Equal(lengths, []int{240, size - 240}):
		return api.OK
	}
	return api.ErrForm
}

// tried joins parts of some lengths to some size, and compares with the chapter's definition.
func tried(t *testing.T, size int, lengths ...int) {
	t.Helper()
	total := 0
	for _, n := range lengths {
		total += n
	}
	value := long(total)
	if want := wantedOf(lengths, size); want != api.OK {
		refused(t, parts(value, lengths...), size, want)
	} else {
		joined(t, parts(value, lengths...), size, value)
	}
}

// P5.2: every size with one piece of every length.
func TestOnePiece(t *testing.T) {
	for size := -2; size < 490; size++ {
		for n := range 490 {
			tried(t, size, n)
		}
	}
}

// P5.2: every size with two and with three pieces, as long as they may be, or too short or too long by one, or empty.
func TestMorePieces(t *testing.T) {
	edges := []int{0, 1, 2, 24, 25, 119, 120, 121, 159, 160, 161, 162, 200, 239, 240, 241, 242, 399, 400, 401, 480}
	for size := -2; size < 490; size++ {
		for _, n := range append(edges, max(size-240, 0), max(size-239, 0), max(size-241, 0), max(size, 0)) {
			for _, m := range append(edges, max(size-n-1, 0), max(size-n, 0), max(size-n+1, 0)) {
				tried(t, size, n, m)
				tried(t, size, 0, n, m)
				tried(t, size, n, 0, m)
				tried(t, size, n, m, 0)
			}
		}
	}
}

// P5.2: pieces that have together as many bytes as the size, but are cut elsewhere or otherwise ordered.
func TestOtherCuts(t *testing.T) {
	for _, size := range []int{25, 26, 239, 240, 241, 242, 399, 400} {
		value := long(size)
		for at := range size + 1 {
			if at != 240 || size == 240 {
				refused(t, []string{value[:at], value[at:]}, size, api.ErrForm)
			}
			refused(t, []string{value[:at], value[at:], ""}, size, api.ErrLong)
			refused(t, []string{"", value[:at], value[at:]}, size, api.ErrLong)
		}
		if size > 240 {
			refused(t, []string{value}, size, api.ErrForm)
			refused(t, []string{value[240:], value[:240]}, size, api.ErrForm)
		}
	}
}

// P5.2: pieces of a value whose bytes are together more or fewer than the size, and pieces that are missing.
func TestOtherSizes(t *testing.T) {
	for _, c := range sizes() {
		if len(c.lengths) == 0 {
			continue
		}
		pieces := parts(long(c.size), c.lengths...)
		for other := 25; other <= 400; other++ {
			if other != c.size {
				refused(t, pieces, other, api.ErrForm)
			}
		}
		refused(t, pieces[1:], c.size, api.ErrForm)
		refused(t, pieces[:len(pieces)-1], c.size, api.ErrForm)
		last := len(pieces) - 1
		for _, other := range []string{"", pieces[last][1:], pieces[last] + "x", pieces[last] + "\x00"} {
			refused(t, append(slices.Clone(pieces[:last]), other), c.size, api.ErrForm)
		}
	}
	// Bytes that one piece has too many do not make up for those that the other lacks.
	refused(t, []string{long(241), long(159)}, 400, api.ErrForm)
	refused(t, []string{long(239), long(161)}, 400, api.ErrForm)
	refused(t, []string{long(242), long(158)}, 400, api.ErrForm)
	refused(t, []string{long(160), long(240)}, 400, api.ErrForm)
}

// P5.2: sizes at both ends and one beyond, and any others, with pieces that would be those of such a value.
func TestSizesBeyond(t *testing.T) {
	joined(t, []string{long(25)}, 25, long(25))
	refused(t, []string{long(24)}, 24, api.ErrLong)
	joined(t, []string{long(400)[:240], long(400)[240:]}, 400, long(400))
	refused(t, []string{long(401)[:240], long(401)[240:]}, 401, api.ErrLong)
	refused(t, []string{""}, 0, api.ErrLong)
	refused(t, nil, 0, api.ErrLong)
	refused(t, []string{long(1)}, 1, api.ErrLong)
	refused(t, []string{long(480)[:240], long(480)[240:]}, 480, api.ErrLong)
	for _, size := range []int{-1, -25, -240, -400, 1<<16 + 25, 1<<31 + 25, 1<<32 + 25, math.MaxInt, math.MaxInt - 238, math.MinInt, math.MinInt + 25} {
		for _, pieces := range [][]string{nil, {""}, {long(25)}, {long(240), long(1)}, {long(240), long(160)}, {long(240), long(160), ""}} {
			refused(t, pieces, size, api.ErrLong)
		}
	}
}

// P5.2: no pieces are those of no long value, and more than two are too many whatever they contain.
func TestNumbersOfPieces(t *testing.T) {
	for _, size := range []int{25, 239, 240, 241, 399, 400} {
		refused(t, nil, size, api.ErrForm)
		refused(t, []string{}, size, api.ErrForm)
		refused(t, []string{""}, size, api.ErrForm)
		refused(t, []string{"", ""}, size, api.ErrForm)
		for _, n := range []int{3, 4, 240, 400, 1 << 16} {
			refused(t, make([]string, n), size, api.ErrLong)
			refused(t, slices.Repeat([]string{"x"}, n), size, api.ErrLong)
			refused(t, append(Cut(long(size)), make([]string, n)...), size, api.ErrLong)
		}
	}
	refused(t, parts(long(400), 240, 159, 1), 400, api.ErrLong)
	refused(t, parts(long(481), 240, 240, 1), 400, api.ErrLong)
	refused(t, []string{long(240), "", long(160)}, 400, api.ErrLong)
}

// P5.2, R1: pieces that are far too long.
func TestHugePieces(t *testing.T) {
	huge := strings.Repeat("x", 1<<24)
	for _, size := range []int{25, 240, 241, 400} {
		refused(t, []string{huge}, size, api.ErrForm)
		refused(t, []string{huge, huge}, size, api.ErrForm)
		refused(t, []string{huge[:240], huge}, size, api.ErrForm)
		refused(t, []string{huge, huge, huge}, size, api.ErrLong)
	}
	if Pages(huge) != 0 || len(Cut(huge)) != 0 {
		t.Error("a huge value has pieces")
	}
}

// P5.3: many values of any bytes.
func TestJoinInvertsCut(t *testing.T) {
	rnd := rand.New(rand.NewSource(5))
	for range 5000 {
		b := make([]byte, 25+rnd.Intn(376))
		rnd.Read(b)
		b[rnd.Intn(len(b))] = 0
		joined(t, Cut(string(b)), len(b), string(b))
	}
}

// share reports whether two strings have memory in common.
func share(a, b string) bool {
	if a == "" || b == "" {
		return false
	}
	from, other := uintptr(unsafe.Pointer(unsafe.StringData(a))), uintptr(unsafe.Pointer(unsafe.StringData(b)))
	return from < other+uintptr(len(b)) && other < from+uintptr(len(a))
}

// R3: results share memory neither with an argument nor with each other.
func TestResultsAreNew(t *testing.T) {
	for _, size := range []int{25, 240, 241, 400} {
		value := long(size)
		first, second := Cut(value), Cut(value)
		for i, piece := range first {
			if share(piece, value) {
				t.Errorf("piece %d of %d bytes is a part of the value", i, size)
			}
			for j, other := range slices.Concat(second, first) {
				if j != len(second)+i && share(piece, other) {
					t.Errorf("piece %d of %d bytes shares memory with another", i, size)
				}
			}
		}
		again, _ := Join(first, size)
		for _, piece := range first {
			if share(again, piece) {
				t.Errorf("the value of %d bytes contains a piece itself", size)
			}
		}
		for i := range first[:cap(first)] {
			first[:cap(first)][i] = "spoilt"
		}
		if !slices.Equal(second, Cut(value)) || again != value {
			t.Errorf("lists of the pieces of %d bytes share memory", size)
		}
	}
}

// R3: the list is not changed, and what is behind it is neither read nor changed.
func TestListsAreNotChanged(t *testing.T) {
	for _, size := range []int{25, 240, 241, 400} {
		value := long(size)
		pieces := Cut(value)
		room := append(slices.Clone(pieces), "behind", value)
		kept := slices.Clone(room)
		joined(t, room[:len(pieces)], size, value)
		refused(t, room[:0], size, api.ErrForm)
		refused(t, room[:len(pieces)-1], size, api.ErrForm)
		refused(t, room[:len(pieces)], 300, api.ErrForm)
		refused(t, room[:len(pieces)], 401, api.ErrLong)
		refused(t, room[:3], size, api.ErrLong)
		if !slices.Equal(room, kept) {
			t.Errorf("the pieces of %d bytes, or what is behind them, were changed", size)
		}
	}
}

// R6: the list that was given may be changed later, and other calls between do not matter.
func TestSameAnswersAgain(t *testing.T) {
	value := long(400)
	pieces := Cut(value)
	before, _ := Join(pieces, 400)
	pieces[0], pieces[1] = "other", "other"
	refused(t, pieces, 400, api.ErrForm)
	refused(t, pieces, 401, api.ErrLong)
	Cut(long(300))
	if before != value {
		t.Error("a value changes with the list that it was joined from")
	}
	joined(t, Cut(value), 400, value)
	if Pages(value) != 2 || Pages(long(24)) != 0 || Pages(value) != 2 {
		t.Error("Pages depends on earlier calls")
	}
}

// FuzzAnyPieces joins any three strings, as far as they are used, to any size; what is joined must be cut into them again.
func FuzzAnyPieces(f *testing.F) {
	for _, c := range sizes() {
		if len(c.lengths) == 2 {
			f.Add(long(240), long(c.lengths[1]), "", 2, c.size)
		}
		f.Add(long(c.size), "", "", 1, c.size)
	}
	f.Add("", "", "", 0, 0)
	f.Fuzz(func(t *testing.T, a, b, c string, n, size int) {
		pieces := []string{a, b, c}[:min(max(n, 0), 3)]
		lengths := []int{}
		for _, piece := range pieces {
			lengths = append(lengths, len(piece))
		}
		value, err := Join(pieces, size)
		if err != wantedOf(lengths, size) || err != api.OK && value != "" {
			t.Fatalf("Join of pieces of %v bytes to %d: %d, %q", lengths, size, err, value)
		}
		if err == api.OK && (value != strings.Join(pieces, "") || !slices.Equal(Cut(value), pieces)) {
			t.Errorf("Join of %q: %q", pieces, value)
		}
		if got, err := Join(Cut(a), len(a)); Pages(a) > 0 && (got != a || err != api.OK) {
			t.Errorf("Join does not invert Cut of %q: %q, %d", a, got, err)
		}
	})
}
