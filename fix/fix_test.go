package fix

import (
	"bytes"
	"math"
	"strings"
	"testing"

	"sapwood/api"
)

// expect checks what can be seen of a reader from outside.
func expect(t *testing.T, what string, r *Reader, err api.Errno, at int) {
	t.Helper()
	if r.Err() != err || r.At() != at {
		t.Errorf("%s: error %d at %d, want error %d at %d", what, r.Err(), r.At(), err, at)
	}
}

// silent checks that no call gives or changes anything any more.
func silent(t *testing.T, what string, r *Reader) {
	t.Helper()
	err, at := r.Err(), r.At()
	for range 2 {
		if n := r.Take8(); n != 0 {
			t.Errorf("%s: then Take8 is %d", what, n)
		}
		if n := r.Take16(); n != 0 {
			t.Errorf("%s: then Take16 is %d", what, n)
		}
		if n := r.Take32(); n != 0 {
			t.Errorf("%s: then Take32 is %d", what, n)
		}
		for _, most := range []int{-1, 0, 5, math.MaxInt} {
			if s := r.Text(most); s != "" {
				t.Errorf("%s: then Text(%d) is %q", what, most, s)
			}
		}
		r.Zero()
		expect(t, what+", then other calls", r, err, at)
	}
}

func TestPut16IsTwoBytesBigEndian(t *testing.T) { // P1.1
	for _, c := range []struct {
		n    int
		want []byte
	}{
		{0, []byte{0, 0}},
		{1, []byte{0, 1}},
		{255, []byte{0, 255}},
		{256, []byte{1, 0}},
		{258, []byte{1, 2}},
		{65535, []byte{255, 255}},
		{65536, []byte{0, 0}},
		{65536 + 258, []byte{1, 2}},
		{-1, []byte{255, 255}},
		{-2, []byte{255, 254}},
		{-258, []byte{254, 254}},
		{-65536, []byte{0, 0}},
		{math.MaxInt, []byte{255, 255}},
		{math.MinInt, []byte{0, 0}},
		{math.MinInt + 3, []byte{0, 3}},
	} {
		if b := Put16(nil, c.n); !bytes.Equal(b, c.want) {
			t.Errorf("Put16(%d) is %v, want %v", c.n, b, c.want)
		}
	}
}

func TestPut32IsFourBytesBigEndian(t *testing.T) { // P1.1
	for _, c := range []struct {
		n    int
		want []byte
	}{
		{0, []byte{0, 0, 0, 0}},
		{65539, []byte{0, 1, 0, 3}},
		{0x01020304, []byte{1, 2, 3, 4}},
		{0x80000000, []byte{128, 0, 0, 0}},
		{0xffffffff, []byte{255, 255, 255, 255}},
		{0x100000000, []byte{0, 0, 0, 0}},
		{0x7a01020304, []byte{1, 2, 3, 4}},
		{-1, []byte{255, 255, 255, 255}},
		{-2, []byte{255, 255, 255, 254}},
		{-0x01020304, []byte{254, 253, 252, 252}},
		{math.MaxInt, []byte{255, 255, 255, 255}},
		{math.MinInt, []byte{0, 0, 0, 0}},
		{math.MinInt + 0x01020304, []byte{1, 2, 3, 4}},
	} {
		if b := Put32(nil, c.n); !bytes.Equal(b, c.want) {
			t.Errorf("Put32(%d) is %v, want %v", c.n, b, c.want)
		}
	}
}

func TestPutTextIsTheLengthAndTheBytes(t *testing.T) { // P1.1
	for _, c := range []struct{ s, want string }{
		{"", "\x00\x00"},
		{"ab", "\x00\x02ab"},
		{"\x00", "\x00\x01\x00"},
		{"\xff\xfe", "\x00\x02\xff\xfe"},
		{"é", "\x00\x02\xc3\xa9"},
		{strings.Repeat("x", 255), "\x00\xff" + strings.Repeat("x", 255)},
		{strings.Repeat("x", 258), "\x01\x02" + strings.Repeat("x", 258)},
		{strings.Repeat("x", 65535), "\xff\xff" + strings.Repeat("x", 65535)},
	} {
		if b := PutText(nil, c.s); string(b) != c.want {
			t.Errorf("PutText of %d bytes gives %d bytes that are not the encoding", len(c.s), len(b))
		}
	}
}

func TestPutTextKeepsTheFirst65535Bytes(t *testing.T) { // P1.1
	for _, tail := range []string{"b", "bc", strings.Repeat("b", 65536)} {
		s := strings.Repeat("a", 65534) + "z" + tail
		b := PutText([]byte{7}, s)
		if string(b) != "\x07\xff\xff"+s[:65535] {
			t.Errorf("PutText of %d bytes gives %d bytes that are not the encoding", len(s), len(b))
		}
		r := Read(b[1:])
		if got := r.Text(65535); got != s[:65535] {
			t.Errorf("Text after PutText of %d bytes has %d bytes", len(s), len(got))
		}
		expect(t, "Text of 65535 bytes", r, api.OK, 2+65535)
	}
}

func TestPutComesBehindTheBytes(t *testing.T) { // P1.1, R4
	for _, b := range [][]byte{nil, {}, {9}, {0, 0, 0}, bytes.Repeat([]byte{5}, 300)} {
		if got := Put16(b, 258); string(got) != string(b)+"\x01\x02" {
			t.Errorf("Put16 behind %v is %v", b, got)
		}
		if got := Put32(b, 65539); string(got) != string(b)+"\x00\x01\x00\x03" {
			t.Errorf("Put32 behind %v is %v", b, got)
		}
		if got := PutText(b, "ab"); string(got) != string(b)+"\x00\x02ab" {
			t.Errorf("PutText behind %v is %v", b, got)
		}
	}
}

func TestPutLeavesTheArgumentAlone(t *testing.T) { // R3
	puts := map[string]func([]byte) []byte{
		"Put16":         func(b []byte) []byte { return Put16(b, 258) },
		"Put32":         func(b []byte) []byte { return Put32(b, 65539) },
		"PutText":       func(b []byte) []byte { return PutText(b, "ab") },
		"PutText empty": func(b []byte) []byte { return PutText(b, "") },
	}
	for name, put := range puts {
		whole := bytes.Repeat([]byte{8}, 64)
		got := put(whole[:3])
		for i := range whole {
			if whole[i] != 8 {
				t.Errorf("%s wrote into its argument at %d", name, i)
			}
		}
		got[0] = 1
		if whole[0] != 8 {
			t.Errorf("%s: the result shares memory with the argument", name)
		}
		whole[1] = 2
		if got[1] != 8 {
			t.Errorf("%s: the result shares memory with the argument", name)
		}
		one, two := put(got), put(got)
		one[len(one)-1]++
		if one[len(one)-1] == two[len(two)-1] {
			t.Errorf("%s: two results share memory", name)
		}
	}
}

func TestReadBeginsAtTheStart(t *testing.T) { // P1.2, R4
	for _, b := range [][]byte{nil, {}, {1}, {0, 5, 'a'}} {
		r := Read(b)
		if r == nil {
			t.Fatalf("Read(%v) is nil", b)
		}
		expect(t, "Read", r, api.OK, 0)
	}
}

func TestReadKeepsACopy(t *testing.T) { // R3
	whole := []byte{1, 2, 0, 1, 'a', 0, 7, 7}
	r := Read(whole[:6])
	for i := range whole {
		whole[i] = 99
	}
	if r.Take16() != 258 || r.Text(1) != "a" {
		t.Error("a reader sees what became of its bytes")
	}
	r.Zero()
	expect(t, "Zero before bytes beyond the length", r, api.OK, 6)
	if r.Take8() != 0 {
		t.Error("a reader reads beyond the length")
	}
	expect(t, "Take8 at the end", r, api.ErrShort, 6)
}

func TestReadChangesNothing(t *testing.T) { // R3
	b := []byte{1, 2, 3, 4, 5, 6, 7, 0, 1, 'a', 0}
	was := bytes.Clone(b)
	r := Read(b)
	r.Take8()
	r.Take16()
	r.Take32()
	r.Text(1)
	r.Zero()
	expect(t, "all bytes", r, api.OK, 11)
	if !bytes.Equal(b, was) {
		t.Errorf("reading changed the bytes to %v", b)
	}
}

func TestReadersAreIndependent(t *testing.T) { // R6
	b := []byte{1, 2, 3}
	one, two := Read(b), Read(b)
	one.Take32()
	expect(t, "the first reader", one, api.ErrShort, 0)
	if two.Take16() != 258 {
		t.Error("the second reader has other bytes")
	}
	expect(t, "the second reader", two, api.OK, 2)
}

func TestTakeAdvancesBehindTheNumber(t *testing.T) { // P1.2
	r := Read([]byte{200, 1, 2, 255, 255, 128, 0, 0, 1, 255, 255, 255, 255, 0})
	if n := r.Take8(); n != 200 {
		t.Errorf("Take8 is %d", n)
	}
	expect(t, "Take8", r, api.OK, 1)
	if n := r.Take16(); n != 258 {
		t.Errorf("Take16 is %d", n)
	}
	expect(t, "Take16", r, api.OK, 3)
	if n := r.Take16(); n != 65535 {
		t.Errorf("Take16 is %d", n)
	}
	expect(t, "Take16", r, api.OK, 5)
	if n := r.Take32(); n != 0x80000001 {
		t.Errorf("Take32 is %d", n)
	}
	expect(t, "Take32", r, api.OK, 9)
	if n := r.Take32(); n != 0xffffffff {
		t.Errorf("Take32 is %d", n)
	}
	expect(t, "Take32", r, api.OK, 13)
	if n := r.Take8(); n != 0 {
		t.Errorf("Take8 is %d", n)
	}
	expect(t, "Take8 of the last byte", r, api.OK, 14)
}

func TestTakeOfTooFewBytesIsShort(t *testing.T) { // P1.2, P1.3
	takes := []struct {
		name  string
		width int
		take  func(*Reader) int
	}{
		{"Take8", 1, (*Reader).Take8},
		{"Take16", 2, (*Reader).Take16},
		{"Take32", 4, (*Reader).Take32},
	}
	for _, c := range takes {
		for skip := range 3 {
			for left := range c.width {
				r := Read(bytes.Repeat([]byte{1}, skip+left))
				for range skip {
					r.Take8()
				}
				if n := c.take(r); n != 0 {
					t.Errorf("%s of %d bytes is %d", c.name, left, n)
				}
				expect(t, c.name, r, api.ErrShort, skip)
				silent(t, c.name, r)
			}
		}
	}
}

func TestTextTakesLengthAndBytes(t *testing.T) { // P1.2
	for _, c := range []struct {
		b    string
		most int
		want string
	}{
		{"\x00\x00", 0, ""},
		{"\x00\x00rest", 0, ""},
		{"\x00\x02ab", 2, "ab"},
		{"\x00\x02ab", math.MaxInt, "ab"},
		{"\x00\x02abc", 2, "ab"},
		{"\x00\x03\x00\xff\x00", 3, "\x00\xff\x00"},
		{"\x01\x02" + strings.Repeat("x", 258), 258, strings.Repeat("x", 258)},
	} {
		r := Read([]byte(c.b))
		if s := r.Text(c.most); s != c.want {
			t.Errorf("Text(%d) of %q is %q", c.most, c.b, s)
		}
		expect(t, "Text", r, api.OK, 2+len(c.want))
	}
}

func TestTextErrors(t *testing.T) { // P1.2, P1.3
	for _, c := range []struct {
		name string
		b    string
		most int
		err  api.Errno
		at   int
	}{
		{"no length", "", 9, api.ErrShort, 0},
		{"half a length", "\x00", 9, api.ErrShort, 0},
		{"half a length, nothing allowed", "\x00", -1, api.ErrShort, 0},
		{"above the most", "\x00\x03abc", 2, api.ErrLong, 2},
		{"above the most, and too few bytes", "\x00\x03a", 2, api.ErrLong, 2},
		{"above the most, and no bytes", "\xff\xff", 65534, api.ErrLong, 2},
		{"empty, above a negative most", "\x00\x00", -1, api.ErrLong, 2},
		{"empty, above the least most", "\x00\x00", math.MinInt, api.ErrLong, 2},
		{"too few bytes", "\x00\x03ab", 9, api.ErrShort, 2},
		{"too few bytes, with the length at the most", "\x00\x03ab", 3, api.ErrShort, 2},
		{"no bytes", "\x00\x01", 1, api.ErrShort, 2},
		{"greatest length, no bytes", "\xff\xff", math.MaxInt, api.ErrShort, 2},
	} {
		r := Read([]byte(c.b))
		if s := r.Text(c.most); s != "" {
			t.Errorf("%s: %q", c.name, s)
		}
		expect(t, c.name, r, c.err, c.at)
		silent(t, c.name, r)
	}
}

func TestZeroTakesZeroBytesOnly(t *testing.T) { // P1.2, P1.3
	for size := range 9 {
		for skip := range size + 1 {
			b := make([]byte, size)
			for i := range skip {
				b[i] = 7 // what is behind the position does not matter
			}
			r := Read(b)
			for range skip {
				r.Take8()
			}
			r.Zero()
			expect(t, "Zero of zero bytes", r, api.OK, size)
			r.Zero()
			expect(t, "Zero at the end", r, api.OK, size)
			for i := skip; i < size; i++ {
				for _, x := range []byte{1, 128, 255} {
					b[i] = x
					r = Read(b)
					for range skip {
						r.Take8()
					}
					r.Zero()
					expect(t, "Zero of other bytes", r, api.ErrForm, skip)
					silent(t, "Zero of other bytes", r)
				}
				b[i] = 0
			}
		}
	}
}

func TestFirstErrorStays(t *testing.T) { // P1.3
	b := []byte{0, 1, 'a', 'b'}
	for _, c := range []struct {
		name string
		fail func(*Reader)
		err  api.Errno
		at   int
	}{
		{"ErrShort", func(r *Reader) { r.Take8(); r.Take32() }, api.ErrShort, 1},
		{"ErrLong", func(r *Reader) { r.Text(0) }, api.ErrLong, 2},
		{"ErrForm", func(r *Reader) { r.Take16(); r.Zero() }, api.ErrForm, 2},
	} {
		r := Read(b)
		c.fail(r)
		expect(t, c.name, r, c.err, c.at)
		silent(t, c.name, r)
	}
}

func TestNilReader(t *testing.T) { // P1.3
	var r *Reader
	expect(t, "a nil Reader", r, api.ErrShort, 0)
	silent(t, "a nil Reader", r)
}

func TestZeroReaderHasNoBytes(t *testing.T) { // R1
	var r Reader
	expect(t, "a zero Reader", &r, api.OK, 0)
	r.Zero()
	expect(t, "Zero of a zero Reader", &r, api.OK, 0)
	r.Take8()
	expect(t, "Take8 of a zero Reader", &r, api.ErrShort, 0)
	silent(t, "a zero Reader", &r)
}

func TestTakeReturnsWhatWasPut(t *testing.T) { // P1.4
	for n := range 1 << 16 {
		r := Read(Put16(nil, n))
		if got := r.Take16(); got != n || r.Err() != api.OK || r.At() != 2 {
			t.Fatalf("Take16 after Put16(%d) is %d", n, got)
		}
	}
	for shift := range 33 {
		for d := -2; d <= 2; d++ {
			n := 1<<shift + d
			if n < 0 || n >= 1<<32 {
				continue
			}
			r := Read(Put32(nil, n))
			if got := r.Take32(); got != n || r.Err() != api.OK || r.At() != 4 {
				t.Fatalf("Take32 after Put32(%d) is %d", n, got)
			}
		}
	}
	for _, size := range []int{0, 1, 2, 255, 256, 257, 65534, 65535} {
		s := strings.Repeat("\x00a\xff", size)[:size]
		r := Read(PutText(nil, s))
		if got := r.Text(size); got != s || r.Err() != api.OK || r.At() != 2+size {
			t.Fatalf("Text after PutText of %d bytes has %d bytes", size, len(got))
		}
	}
}

func TestTakeReturnsASequenceThatWasPut(t *testing.T) { // P1.4
	b := Put32(PutText(Put16(PutText(nil, "key"), 65535), ""), 1<<31)
	r := Read(append(b, 0, 0, 0))
	if s := r.Text(24); s != "key" {
		t.Errorf("the first string is %q", s)
	}
	if n := r.Take16(); n != 65535 {
		t.Errorf("the number in two bytes is %d", n)
	}
	if s := r.Text(0); s != "" {
		t.Errorf("the second string is %q", s)
	}
	if n := r.Take32(); n != 1<<31 {
		t.Errorf("the number in four bytes is %d", n)
	}
	expect(t, "the sequence", r, api.OK, len(b))
	r.Zero()
	expect(t, "the zero bytes behind", r, api.OK, len(b)+3)
}

// perform does one of the reader's calls, and tells whether it gave something.
func perform(r *Reader, call int) bool {
	switch call {
	case 0:
		return r.Take8() != 0
	case 1:
		return r.Take16() != 0
	case 2:
		return r.Take32() != 0
	case 3:
		return r.Text(1) != ""
	default:
		r.Zero()
		return false
	}
}

// FuzzAnyBytes lets any calls read any bytes, whether they are an encoding or not (R1, P1.2, P1.3).
func FuzzAnyBytes(f *testing.F) {
	f.Add([]byte{}, []byte{0})
	f.Add([]byte{0, 1, 'a', 0, 0}, []byte{3, 4, 0})
	f.Add([]byte{0, 2, 'a', 'b', 7}, []byte{3, 0, 1})
	f.Add([]byte{255, 255, 255, 255, 255}, []byte{2, 1, 0})
	f.Add([]byte{1, 2, 3, 4, 5, 6, 7, 8}, []byte{0, 1, 2, 4, 3})
	f.Fuzz(func(t *testing.T, b, calls []byte) {
		r := Read(b)
		for _, c := range calls {
			err, at := r.Err(), r.At()
			gave := perform(r, int(c)%5)
			if r.At() < at || r.At() > len(b) {
				t.Fatalf("the position goes from %d to %d of %d", at, r.At(), len(b))
			}
			if r.Err() != api.OK && gave {
				t.Fatalf("call %d gives something with the error %d", c%5, r.Err())
			}
			if err != api.OK && (r.Err() != err || r.At() != at) {
				t.Fatalf("after error %d at %d: error %d at %d", err, at, r.Err(), r.At())
			}
		}
	})
}
