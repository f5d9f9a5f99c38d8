package sum

import (
	"bytes"
	"hash/crc32"
	"math/bits"
	"math/rand"
	"strings"
	"testing"
)

// bitwise is the chapter's definition of the checksum, word for word.
func bitwise(b []byte) uint32 {
	n := uint32(0xffffffff)
	for _, x := range b {
		n ^= uint32(x) << 24
		for range 8 {
			out := n >> 31
			n <<= 1
			if out == 1 {
				n ^= 0x04c11db7
			}
		}
	}
	return ^n
}

// mirrored is the checksum by way of the library's CRC-32, which takes the lowest bit first.
func mirrored(b []byte) uint32 {
	turned := make([]byte, len(b))
	for i, x := range b {
		turned[i] = bits.Reverse8(x)
	}
	return bits.Reverse32(crc32.ChecksumIEEE(turned))
}

// samples are byte sequences of many lengths and contents.
func samples() [][]byte {
	out := [][]byte{
		nil, {}, {0}, {1}, {128}, {255}, {0, 0, 0, 0}, {255, 255, 255, 255},
		[]byte("123456789"), make([]byte, 252), bytes.Repeat([]byte{255}, 256),
	}
	rnd := rand.New(rand.NewSource(2))
	for size := range 80 {
		out = append(out, noise(rnd, size))
	}
	for _, size := range []int{251, 252, 253, 255, 256, 257, 4096, 70001} {
		out = append(out, noise(rnd, size))
	}
	return out
}

func noise(rnd *rand.Rand, size int) []byte {
	b := make([]byte, size)
	rnd.Read(b)
	return b
}

// invert inverts the bits of a 32-bit pattern from the given bit onwards, as far as there are bits.
func invert(b []byte, at int, pattern uint32) []byte {
	out := bytes.Clone(b)
	for i := range 32 {
		if pattern>>(31-i)&1 == 1 && at+i < 8*len(b) {
			out[(at+i)/8] ^= 128 >> ((at + i) % 8)
		}
	}
	return out
}

// rejected checks that Open has no result for b.
func rejected(t *testing.T, what string, b []byte) {
	t.Helper()
	if in, ok := Open(b); in != nil || ok {
		t.Errorf("%s: Open(%x) is %x, %t, want nil, false", what, b, in, ok)
	}
}

func TestSizeIsFour(t *testing.T) { // P2.1
	if Size != 4 {
		t.Errorf("Size is %d", Size)
	}
}

func TestOfKnownBytes(t *testing.T) { // P2.1
	for _, c := range []struct {
		in   string
		want uint32
	}{
		{"", 0},
		{"123456789", 0xfc891918},
		{"\x00", 0xb1f7404b},
		{"\xff", 0x000000ff},
		{"\x00\x00\x00\x00", 0x38fb2284},
		{"\xff\xff\xff\xff", 0xffffffff},
		{"\xff\xff\xff\xff\x00\x00\x00\x01", 0xfb3ee248},
		{"a", 0x19939b6b},
	} {
		if n := Of([]byte(c.in)); n != c.want {
			t.Errorf("Of(%q) is %08x, want %08x", c.in, n, c.want)
		}
	}
}

func TestOfIsTheChecksum(t *testing.T) { // P2.1
	for _, b := range samples() {
		want := bitwise(b)
		if mirrored(b) != want {
			t.Fatalf("the two references differ for %d bytes", len(b))
		}
		if n := Of(b); n != want {
			t.Errorf("Of(%x) is %08x, want %08x", b, n, want)
		}
	}
	for n := range 1 << 16 {
		b := []byte{byte(n >> 8), byte(n)}
		if Of(b) != bitwise(b) {
			t.Fatalf("Of(%x) is %08x, want %08x", b, Of(b), bitwise(b))
		}
	}
}

func TestSealIsTheBytesAndTheirChecksum(t *testing.T) { // P2.1
	for _, c := range []struct{ in, want string }{
		{"", "\x00\x00\x00\x00"},
		{"123456789", "123456789\xfc\x89\x19\x18"},
		{"\x00", "\x00\xb1\xf7\x40\x4b"},
		{"\xff\xff\xff\xff", "\xff\xff\xff\xff\xff\xff\xff\xff"},
	} {
		if s := Seal([]byte(c.in)); string(s) != c.want {
			t.Errorf("Seal(%q) is %q, want %q", c.in, s, c.want)
		}
	}
	for _, b := range samples() {
		n := bitwise(b)
		want := string(b) + string([]byte{byte(n >> 24), byte(n >> 16), byte(n >> 8), byte(n)})
		if s := Seal(b); string(s) != want {
			t.Errorf("Seal(%x) is %x, want %x", b, s, want)
		}
	}
}

func TestOpenReturnsWhatWasSealed(t *testing.T) { // P2.1, R4
	for _, b := range samples() {
		if in, ok := Open(Seal(b)); !bytes.Equal(in, b) || !ok {
			t.Errorf("Open of sealed %x is %x, %t", b, in, ok)
		}
	}
	if in, ok := Open([]byte{0, 0, 0, 0}); len(in) != 0 || !ok {
		t.Errorf("Open of no bytes, sealed, is %x, %t", in, ok)
	}
	if in, ok := Open([]byte("123456789\xfc\x89\x19\x18")); string(in) != "123456789" || !ok {
		t.Errorf("Open of the example is %q, %t", in, ok)
	}
}

func TestSealedBytesSealedOnceMore(t *testing.T) { // P2.1
	for _, b := range samples() {
		once := Seal(b)
		twice := Seal(once)
		if len(twice) != len(b)+2*Size || !bytes.HasPrefix(twice, once) {
			t.Errorf("%x sealed twice is %x", b, twice)
		}
		if tail := twice[len(once):]; string(tail) != "\x38\xfb\x22\x84" {
			t.Errorf("the checksum of sealed %x is %x, want the same as of all sealed bytes", b, tail)
		}
		in, ok := Open(twice)
		if !bytes.Equal(in, once) || !ok {
			t.Errorf("Open of %x, sealed twice, is %x, %t", b, in, ok)
		}
		in, ok = Open(in)
		if !bytes.Equal(in, b) || !ok {
			t.Errorf("Open of %x, sealed and opened, is %x, %t", b, in, ok)
		}
	}
}

func TestOpenOfTooFewBytes(t *testing.T) { // P2.1, R2
	rejected(t, "nil", nil)
	rejected(t, "empty", []byte{})
	for _, s := range []string{"", "1", "12", "123456789"} {
		sealed := Seal([]byte(s))
		for size := range 4 {
			rejected(t, "the end alone", sealed[len(sealed)-size:])
			rejected(t, "the beginning alone", sealed[:size])
		}
	}
}

func TestOpenOfWhatIsNotSealed(t *testing.T) { // P2.1, R2
	rejected(t, "no checksum", []byte("123456789"))
	rejected(t, "the checksum lowest byte first", []byte("123456789\x18\x19\x89\xfc"))
	rejected(t, "the checksum not inverted", []byte("123456789\x03\x76\xe6\xe7"))
	rejected(t, "the checksum in front", []byte("\xfc\x89\x19\x18123456789"))
	rejected(t, "the checksum of the mirrored bits", []byte("123456789\xcb\xf4\x39\x26"))
	for _, b := range samples() {
		sealed := Seal(b)
		rejected(t, "the last byte is missing", sealed[:len(sealed)-1])
		if len(b) > 0 {
			rejected(t, "the first byte is missing", sealed[1:])
			rejected(t, "a zero byte in front", append([]byte{0}, sealed...))
		}
		rejected(t, "one byte more", append(bytes.Clone(sealed), 0))
	}
	for tail := range 1 << 16 {
		if b := []byte{'a', 0x19, 0x93, byte(tail >> 8), byte(tail)}; tail != 0x9b6b {
			rejected(t, "a wrong checksum", b)
		}
	}
}

func TestOpenAcceptsSealedBytesAlone(t *testing.T) { // P2.1
	rnd := rand.New(rand.NewSource(3))
	for range 20000 {
		b := noise(rnd, rnd.Intn(9))
		in, ok := Open(b)
		if want := len(b) >= Size && bytes.Equal(Seal(b[:max(0, len(b)-Size)]), b); ok != want {
			t.Fatalf("Open(%x) is %x, %t", b, in, ok)
		}
	}
}

func TestOpenRejectsEveryInvertedBit(t *testing.T) { // P2.2
	for _, b := range samples() {
		sealed := Seal(b)
		if len(sealed) > 400 {
			continue
		}
		for at := range 8 * len(sealed) {
			rejected(t, "one bit inverted", invert(sealed, at, 1<<31))
			rejected(t, "32 bits inverted", invert(sealed, at, 1<<32-1))
			rejected(t, "the two ends inverted", invert(sealed, at, 1<<31|1))
		}
	}
}

func TestOpenRejectsShortBursts(t *testing.T) { // P2.2
	sealed := Seal([]byte("sapwood"))
	for at := range 8 * len(sealed) {
		for pattern := uint32(1 << 9); pattern < 1<<10; pattern++ {
			rejected(t, "a burst of ten bits", invert(sealed, at, pattern<<22))
		}
	}
}

func TestOpenRejectsBurstsAcrossTheBorder(t *testing.T) { // P2.2
	rnd := rand.New(rand.NewSource(4))
	for _, size := range []int{1, 2, 4, 9, 252} {
		sealed := Seal(noise(rnd, size))
		border := 8 * size
		for at := max(0, border-31); at < border; at++ {
			for range 200 {
				inside := uint32(1) << (31 - rnd.Intn(border-at))
				behind := uint32(1) << rnd.Intn(32-(border-at))
				rejected(t, "bits on both sides", invert(sealed, at, rnd.Uint32()|inside|behind))
			}
		}
	}
}

func TestNoBurstOf32BitsCancels(t *testing.T) { // P2.2
	rnd := rand.New(rand.NewSource(5))
	for _, size := range []int{0, 1, 3, 4, 5, 9, 40} {
		sealed := Seal(noise(rnd, size))
		for at := 0; at+32 <= 8*len(sealed); at++ {
			effects := make([]uint32, 32)
			for i := range effects {
				effects[i] = mismatch(invert(sealed, at+i, 1<<31))
			}
			if r := rank(effects); r != 32 {
				t.Errorf("%d bytes: of the bits from %d on, only %d have effects of their own, so that some burst cancels", size, at, r)
			}
		}
	}
}

// mismatch is the difference between the checksum that b ends with and the one that it should end with.
func mismatch(b []byte) uint32 {
	right := Seal(b[:len(b)-Size])
	n := uint32(0)
	for i := len(b) - Size; i < len(b); i++ {
		n = n<<8 | uint32(b[i]^right[i])
	}
	return n
}

// rank is how many of the numbers are no exclusive or of the ones before.
func rank(numbers []uint32) int {
	var byTop [33]uint32
	count := 0
	for _, n := range numbers {
		for n != 0 && byTop[bits.Len32(n)] != 0 {
			n ^= byTop[bits.Len32(n)]
		}
		if n != 0 {
			byTop[bits.Len32(n)] = n
			count++
		}
	}
	return count
}

func TestExclusiveOr(t *testing.T) { // P2.3
	rnd := rand.New(rand.NewSource(6))
	for _, size := range []int{0, 1, 2, 3, 4, 5, 8, 31, 252, 256, 1000} {
		zero := Of(make([]byte, size))
		for range 50 {
			a, b := noise(rnd, size), noise(rnd, size)
			both := make([]byte, size)
			for i := range both {
				both[i] = a[i] ^ b[i]
			}
			if n, want := Of(both), Of(a)^Of(b)^zero; n != want {
				t.Fatalf("%d bytes: Of(%x ^ %x) is %08x, want %08x", size, a, b, n, want)
			}
		}
	}
}

func TestExclusiveOrOfAllBytes(t *testing.T) { // P2.3
	zero := Of([]byte{0, 0})
	for a := range 256 {
		for b := range 256 {
			n := Of([]byte{byte(a ^ b), byte(b)})
			if want := Of([]byte{byte(a), 0}) ^ Of([]byte{byte(b), byte(b)}) ^ zero; n != want {
				t.Fatalf("%d and %d: %08x, want %08x", a, b, n, want)
			}
		}
	}
}

func TestArgumentsStayAsTheyAre(t *testing.T) { // R3
	whole := []byte("123456789\xfc\x89\x19\x18 and more")
	before := string(whole)
	Of(whole[:9])
	Seal(whole[:9])
	Seal(whole[:0])
	Open(whole[:13])
	Open(whole[:12])
	Open(whole[:2])
	if string(whole) != before {
		t.Errorf("the argument or what is behind it is now %q", whole)
	}
}

func TestNothingBeyondTheLengthIsRead(t *testing.T) { // R3
	whole := []byte("123456789\xfc\x89\x19\x18")
	other := []byte("123456789\x00\x00\x00\x00")
	if Of(whole[:9]) != Of(other[:9]) || !bytes.Equal(Seal(whole[:9]), Seal(other[:9])) {
		t.Error("the result depends on what is beyond the length")
	}
	rejected(t, "the checksum beyond the length", whole[:9])
}

func TestResultsAreNewMemory(t *testing.T) { // R3
	for _, s := range []string{"", "1", "123456789"} {
		b := make([]byte, len(s), len(s)+20)
		copy(b, s)
		sealed := Seal(b)
		want := string(sealed)
		clear(b[:cap(b)])
		if string(sealed) != want {
			t.Errorf("a change of the argument makes %q of the result %q", sealed, want)
		}
		first, _ := Open(sealed)
		second, _ := Open(sealed)
		clear(sealed)
		for i := range first {
			first[i]++
		}
		_ = append(first, "xxxxxx"...)
		if string(second) != s {
			t.Errorf("Open gives %q, want %q, after other memory was changed", second, s)
		}
		if string(first) == s && s != "" {
			t.Errorf("the result %q of Open does not change", s)
		}
	}
}

func TestSameResultEachTime(t *testing.T) { // R6
	b := []byte(strings.Repeat("sapwood", 30))
	n := Of(b)
	for _, other := range samples() {
		Of(other)
		Open(Seal(other))
		if Of(b) != n {
			t.Fatalf("Of is %08x, and was %08x", Of(b), n)
		}
	}
}

func FuzzAnyBytes(f *testing.F) { // P2.1, R1, R2
	for _, s := range []string{"", "123", "123456789", "123456789\xfc\x89\x19\x18", "\x00\x00\x00\x00"} {
		f.Add([]byte(s))
	}
	f.Fuzz(func(t *testing.T, b []byte) {
		if Of(b) != bitwise(b) {
			t.Errorf("Of(%x) is %08x, want %08x", b, Of(b), bitwise(b))
		}
		in, ok := Open(b)
		if ok && !bytes.Equal(Seal(in), b) {
			t.Errorf("Open(%x) is %x", b, in)
		}
		if !ok && in != nil {
			t.Errorf("Open(%x) is %x and false", b, in)
		}
		if again, ok := Open(Seal(b)); !ok || !bytes.Equal(again, b) {
			t.Errorf("Open of sealed %x is %x, %t", b, again, ok)
		}
	})
}
