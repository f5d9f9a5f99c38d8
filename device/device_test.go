package device

import (
	"bytes"
	"math"
	"math/rand"
	"strings"
	"testing"

	"sapwood/api"
)

// all keeps every pending write.
const all uint64 = math.MaxUint64

// full is a page of one byte, repeated.
func full(c byte) []byte { return bytes.Repeat([]byte{c}, 256) }

// mixed is a page of which no two neighbours are alike, unlike for each c.
func mixed(c byte) []byte {
	b := make([]byte, 256)
	for i := range b {
		b[i] = c + byte(i)*7
	}
	return b
}

// model is a device by the chapter's words: the stored contents of each page, and a list of pending writes.
type model struct {
	stored []string
	list   []pending
}

type pending struct {
	page  int
	bytes string
}

func newModel(pages int) *model {
	m := &model{}
	for range pages {
		m.stored = append(m.stored, strings.Repeat("\x00", 256))
	}
	return m
}

func (m *model) write(i int, b []byte) api.Errno {
	if i < 0 || i >= len(m.stored) || len(b) != 256 {
		return api.ErrArg
	}
	m.list = append(m.list, pending{i, string(b)})
	return api.OK
}

func (m *model) current(i int) string {
	s := m.stored[i]
	for _, w := range m.list {
		if w.page == i {
			s = w.bytes
		}
	}
	return s
}

func (m *model) crash(keep uint64, torn, part int) {
	bits := [64]uint64{}
	for i := range bits {
		bits[i], keep = keep%2, keep/2
	}
	for i, w := range m.list {
		if i == torn && part < 256 {
			part = max(part, 0)
			w.bytes = w.bytes[:part] + m.stored[w.page][part:]
		}
		if bits[i-i/64*64] == 1 {
			m.stored[w.page] = w.bytes
		}
	}
	m.list = nil
}

func (m *model) sync() {
	for i := range m.stored {
		m.stored[i] = m.current(i)
	}
	m.list = nil
}

func (m *model) bytes() string {
	out := ""
	for i := range m.stored {
		out += m.current(i)
	}
	return out
}

// same checks that a device is seen to be what the model is.
func same(t *testing.T, d *Device, m *model) {
	t.Helper()
	if d.Pages() != len(m.stored) || d.Waiting() != len(m.list) {
		t.Fatalf("%d pages and %d pending writes, not %d and %d", d.Pages(), d.Waiting(), len(m.stored), len(m.list))
	}
	if string(d.Bytes()) != m.bytes() {
		t.Fatal("Bytes returns other bytes")
	}
	for i := range m.stored {
		if b, err := d.Read(i); err != api.OK || string(b) != m.current(i) {
			t.Fatalf("Read of %d: %d, %v", i, err, b)
		}
	}
	if d.Waiting() != len(m.list) {
		t.Fatal("reading changes the pending writes")
	}
}

// holds checks the contents of all pages and the number of pending writes.
func holds(t *testing.T, d *Device, waiting int, pages ...[]byte) {
	t.Helper()
	if d.Pages() != len(pages) || d.Waiting() != waiting {
		t.Errorf("%d pages and %d pending writes, not %d and %d", d.Pages(), d.Waiting(), len(pages), waiting)
	}
	for i, want := range pages {
		if b, err := d.Read(i); err != api.OK || !bytes.Equal(b, want) {
			t.Errorf("Read of %d: %d, %v, not %v", i, err, b, want)
		}
	}
	if !bytes.Equal(d.Bytes(), bytes.Join(pages, nil)) {
		t.Error("Bytes returns other bytes")
	}
}

// put is a Write that must be accepted.
func put(t *testing.T, d *Device, i int, b []byte) {
	t.Helper()
	if err := d.Write(i, b); err != api.OK {
		t.Fatalf("Write to %d: %d", i, err)
	}
}

// refused checks that a write is refused and leaves the device as it is.
func refused(t *testing.T, d *Device, i int, b []byte) {
	t.Helper()
	waiting, kept := d.Waiting(), d.Bytes()
	if err := d.Write(i, b); err != api.ErrArg {
		t.Errorf("Write of %d bytes to %d: %d", len(b), i, err)
	}
	if d.Waiting() != waiting || !bytes.Equal(d.Bytes(), kept) {
		t.Errorf("Write of %d bytes to %d changes the device", len(b), i)
	}
}

// unread checks that a page cannot be read.
func unread(t *testing.T, d *Device, i int) {
	t.Helper()
	if b, err := d.Read(i); err != api.ErrArg || len(b) != 0 {
		t.Errorf("Read of %d: %d, %v", i, err, b)
	}
}

// P7.1
func TestNew(t *testing.T) {
	for _, c := range [][2]int{{-1, 0}, {-256, 0}, {math.MinInt, 0}, {0, 0}, {1, 1}, {2, 2}, {9, 9}, {511, 511}, {512, 512}, {513, 512}, {1 << 20, 512}, {1<<32 + 3, 512}, {math.MaxInt, 512}} {
		d := New(c[0])
		if d == nil || d.Pages() != c[1] || d.Waiting() != 0 || !bytes.Equal(d.Bytes(), make([]byte, 256*c[1])) {
			t.Fatalf("New of %d", c[0])
		}
		for i := range c[1] {
			if b, err := d.Read(i); err != api.OK || !bytes.Equal(b, full(0)) {
				t.Fatalf("Read of %d, after New of %d: %d, %v", i, c[0], err, b)
			}
		}
		unread(t, d, -1)
		unread(t, d, c[1])
		refused(t, d, c[1], full(1))
	}
}

// P7.1: no bytes, parts of a page, whole pages, and the most that there can be.
func TestImage(t *testing.T) {
	for _, size := range []int{0, 1, 2, 255, 256, 257, 511, 512, 513, 5*256 - 1, 5 * 256, 511*256 + 1, 512*256 - 256, 512*256 - 1, 512 * 256} {
		b := make([]byte, size)
		for i := range b {
			b[i] = byte(i%251) + 1
		}
		pages := 0
		for pages*256 < size {
			pages++
		}
		d, err := Image(b)
		if err != api.OK || d == nil || d.Pages() != pages || d.Waiting() != 0 {
			t.Fatalf("Image of %d bytes: %d", size, err)
		}
		want := append(bytes.Clone(b), make([]byte, 256*pages-size)...)
		if !bytes.Equal(d.Bytes(), want) {
			t.Fatalf("Image of %d bytes: other bytes", size)
		}
		for i := range pages {
			if x, err := d.Read(i); err != api.OK || !bytes.Equal(x, want[256*i:256*i+256]) {
				t.Fatalf("Image of %d bytes: Read of %d: %d, %v", size, i, err, x)
			}
		}
		unread(t, d, pages)
		// An image is stored, not written: no crash takes it away.
		d.Crash(0, 0, 0)
		if !bytes.Equal(d.Bytes(), want) {
			t.Fatalf("Image of %d bytes: lost in a crash", size)
		}
	}
}

// P7.1, R2
func TestLongImage(t *testing.T) {
	for _, size := range []int{512*256 + 1, 512*256 + 255, 513 * 256, 1 << 20} {
		if d, err := Image(make([]byte, size)); d != nil || err != api.ErrLong {
			t.Errorf("Image of %d bytes: %v, %d", size, d, err)
		}
	}
}

// R4
func TestNoBytes(t *testing.T) {
	for _, b := range [][]byte{nil, {}, make([]byte, 0, 300)} {
		d, err := Image(b)
		if d == nil || err != api.OK || d.Pages() != 0 || len(d.Bytes()) != 0 {
			t.Errorf("Image of no bytes: %v, %d", d, err)
		}
		refused(t, d, 0, full(1))
		refused(t, New(1), 0, b)
	}
}

// P7.2: pages below 0, the first, the last, and beyond.
func TestWhichPages(t *testing.T) {
	for _, n := range []int{0, 1, 2, 3, 511, 512} {
		d := New(n)
		for _, i := range []int{-1, -2, -n, -n - 1, math.MinInt, math.MinInt / 256, n, n + 1, 512, 513, 1 << 32, 1 << 56, math.MaxInt, math.MaxInt / 256} {
			if 0 <= i && i < n {
				continue
			}
			refused(t, d, i, full(1))
			refused(t, d, i, nil)
			unread(t, d, i)
		}
		if n == 0 {
			continue
		}
		put(t, d, n-1, full(5))
		put(t, d, 0, full(4))
		first, err := d.Read(0)
		if err != api.OK || !bytes.Equal(first, full(4)) {
			t.Errorf("Read of the first of %d: %d, %v", n, err, first)
		}
		last, err := d.Read(n - 1)
		if err != api.OK || n > 1 && !bytes.Equal(last, full(5)) {
			t.Errorf("Read of the last of %d: %d, %v", n, err, last)
		}
	}
}

// P7.2: bytes of every length near the right one.
func TestWhichLengths(t *testing.T) {
	d := New(2)
	put(t, d, 1, full(3))
	room := full(9)
	room = append(room, room...)
	for _, size := range []int{0, 1, 2, 128, 254, 255, 257, 258, 511, 512} {
		for _, i := range []int{0, 1, 2, -1} {
			refused(t, d, i, room[:size])
			refused(t, d, i, room[:size:size])
		}
	}
	holds(t, d, 1, full(0), full(3))
	put(t, d, 0, room[:256])
	holds(t, d, 2, full(9), full(3))
}

// P7.2: pending writes of one page and of several, before and after Sync.
func TestPendingAndSync(t *testing.T) {
	d := New(3)
	put(t, d, 1, mixed(1))
	holds(t, d, 1, full(0), mixed(1), full(0))
	put(t, d, 1, mixed(2))
	holds(t, d, 2, full(0), mixed(2), full(0))
	put(t, d, 0, mixed(3))
	put(t, d, 1, mixed(4))
	put(t, d, 0, mixed(5))
	put(t, d, 2, mixed(6))
	holds(t, d, 6, mixed(5), mixed(4), mixed(6))
	d.Sync()
	holds(t, d, 0, mixed(5), mixed(4), mixed(6))
	d.Sync()
	holds(t, d, 0, mixed(5), mixed(4), mixed(6))
	put(t, d, 2, mixed(7))
	put(t, d, 2, mixed(6))
	put(t, d, 2, mixed(7))
	holds(t, d, 3, mixed(5), mixed(4), mixed(7))
	d.Sync()
	holds(t, d, 0, mixed(5), mixed(4), mixed(7))
}

// P7.2: the same bytes written again are one more pending write, and zero bytes are written as any others.
func TestWritesOfWhatIsThere(t *testing.T) {
	d := New(1)
	put(t, d, 0, full(0))
	put(t, d, 0, full(8))
	put(t, d, 0, full(8))
	put(t, d, 0, full(0))
	holds(t, d, 4, full(0))
	d.Crash(6, 5, 0)
	holds(t, d, 0, full(8))
	put(t, d, 0, full(0))
	d.Sync()
	holds(t, d, 0, full(0))
}

// P7.3: the chapter's example.
func TestExample(t *testing.T) {
	d := New(2)
	put(t, d, 0, full(1))
	d.Crash(1, 0, 2)
	holds(t, d, 0, append([]byte{1, 1}, make([]byte, 254)...), full(0))
}

// written is a device with stored contents and four pending writes, the first and the third of one page.
func written(t *testing.T) *Device {
	t.Helper()
	d := New(3)
	for i := range 3 {
		put(t, d, i, mixed(byte(100+i)))
	}
	d.Sync()
	put(t, d, 0, mixed(1))
	put(t, d, 1, mixed(2))
	put(t, d, 0, mixed(3))
	put(t, d, 2, mixed(4))
	return d
}

// cut is the beginning of a page over another one.
func cut(over []byte, size int, under []byte) []byte {
	return append(bytes.Clone(over[:size]), under[size:]...)
}

// P7.3: every choice of four pending writes, with none of them torn; the bits beyond do not matter.
func TestKeep(t *testing.T) {
	for keep := range uint64(16) {
		for _, more := range []uint64{0, 1 << 4, 1 << 63, all &^ 15} {
			for _, torn := range []int{-1, -64, math.MinInt, 4, 5, 64, 65, 1 << 32, math.MaxInt} {
				a, b, c := mixed(100), mixed(101), mixed(102)
				if keep&1 != 0 {
					a = mixed(1)
				}
				if keep&4 != 0 {
					a = mixed(3)
				}
				if keep&2 != 0 {
					b = mixed(2)
				}
				if keep&8 != 0 {
					c = mixed(4)
				}
				d := written(t)
				d.Crash(keep|more, torn, 7)
				holds(t, d, 0, a, b, c)
			}
		}
	}
}

// P7.3: each of four pending writes torn at every place, and beyond what it has.
func TestTorn(t *testing.T) {
	for part := -2; part < 260; part++ {
		size := min(max(part, 0), 256)
		for _, c := range []struct {
			keep    uint64
			torn    int
			a, b, c []byte
		}{
			{all, 0, mixed(3), mixed(2), mixed(4)},
			{11, 0, cut(mixed(1), size, mixed(100)), mixed(2), mixed(4)},
			{10, 0, mixed(100), mixed(2), mixed(4)},
			{all, 1, mixed(3), cut(mixed(2), size, mixed(101)), mixed(4)},
			{13, 1, mixed(3), mixed(101), mixed(4)},
			{all, 2, cut(mixed(3), size, mixed(1)), mixed(2), mixed(4)},
			{14, 2, cut(mixed(3), size, mixed(100)), mixed(2), mixed(4)},
			{11, 2, mixed(1), mixed(2), mixed(4)},
			{all, 3, mixed(3), mixed(2), cut(mixed(4), size, mixed(102))},
			{8, 3, mixed(100), mixed(101), cut(mixed(4), size, mixed(102))},
			{0, 3, mixed(100), mixed(101), mixed(102)},
			{all, 4, mixed(3), mixed(2), mixed(4)},
			{all, -1, mixed(3), mixed(2), mixed(4)},
		} {
			d := written(t)
			d.Crash(c.keep, c.torn, part)
			holds(t, d, 0, c.a, c.b, c.c)
		}
	}
}

// P7.3, R1: parts far beyond a page.
func TestFarParts(t *testing.T) {
	for _, part := range []int{math.MinInt, -1 << 32, -256, 257, 512, 1 << 32, math.MaxInt} {
		want := mixed(2)
		if part < 0 {
			want = mixed(101)
		}
		d := written(t)
		d.Crash(2, 1, part)
		holds(t, d, 0, mixed(100), want, mixed(102))
	}
}

// P7.3: more than 64 pending writes, each of its own page; bits are used again, but the torn one is one alone.
func TestManyPending(t *testing.T) {
	for _, n := range []int{63, 64, 65, 128, 129, 200, 512} {
		for _, keep := range []uint64{0, 1, 2, 1 << 62, 1 << 63, 1<<63 | 1, 0x5555555555555555, 0x0123456789abcdef, all} {
			for _, torn := range []int{-1, -64, 0, 1, 2, 62, 63, 64, 65, 126, 127, 128, 191, 199, 200, 511, 512, 513} {
				d := New(n)
				for i := range n {
					put(t, d, i, full(byte(i%255)+1))
				}
				d.Crash(keep, torn, 9)
				kept(t, d, keep, torn)
			}
		}
	}
}

// kept checks each page behind a crash with a torn write of 9 bytes, where page i was written by the pending write i.
func kept(t *testing.T, d *Device, keep uint64, torn int) {
	t.Helper()
	for i := range d.Pages() {
		want := full(0)
		if keep&(1<<(i&63)) != 0 {
			want = full(byte(i%255) + 1)
			if i == torn {
				want = cut(want, 9, full(0))
			}
		}
		if b, err := d.Read(i); err != api.OK || !bytes.Equal(b, want) {
			t.Fatalf("%d pages, keep %x, torn %d: page %d is %v", d.Pages(), keep, torn, i, b)
		}
	}
	if d.Waiting() != 0 {
		t.Fatalf("%d pending writes behind a crash", d.Waiting())
	}
}

// P7.3: more than 64 pending writes of one page: the last one that is kept is seen.
func TestManyPendingOfOnePage(t *testing.T) {
	for _, c := range []struct {
		keep uint64
		want int
	}{{all, 99}, {1, 64}, {1 << 35, 99}, {1 << 36, 36}, {1 << 63, 63}, {0, -1}, {1<<63 | 1<<3, 67}} {
		d := New(1)
		put(t, d, 0, full(200))
		d.Sync()
		for i := range 100 {
			put(t, d, 0, full(byte(i)))
		}
		d.Crash(c.keep, -1, 0)
		if c.want < 0 {
			c.want = 200
		}
		holds(t, d, 0, full(byte(c.want)))
	}
}

// P7.3, P7.4: crashes one after another; nothing is left of lost writes, and indexes begin at 0 again.
func TestSeveralCrashes(t *testing.T) {
	d := New(2)
	d.Crash(all, 0, 256)
	holds(t, d, 0, full(0), full(0))
	put(t, d, 0, full(1))
	put(t, d, 1, full(2))
	d.Crash(2, 0, 0)
	holds(t, d, 0, full(0), full(2))
	d.Crash(all, 0, 256)
	d.Sync()
	holds(t, d, 0, full(0), full(2))
	put(t, d, 0, full(3))
	d.Crash(1, 0, 100)
	holds(t, d, 0, cut(full(3), 100, full(0)), full(2))
	put(t, d, 0, full(4))
	d.Crash(1, 0, 50)
	holds(t, d, 0, cut(full(4), 50, cut(full(3), 100, full(0))), full(2))
	put(t, d, 1, full(5))
	d.Crash(2, 0, 50)
	d.Crash(0, 0, 50)
	holds(t, d, 0, cut(full(4), 50, cut(full(3), 100, full(0))), full(2))
	put(t, d, 1, full(6))
	d.Sync()
	d.Crash(0, 0, 0)
	holds(t, d, 0, cut(full(4), 50, cut(full(3), 100, full(0))), full(6))
}

// P7.4: stored contents stay, from New, Image, Sync and a crash, until their page is written again.
func TestStoredContentsStay(t *testing.T) {
	d, _ := Image(append(mixed(1), mixed(2)...))
	rnd := rand.New(rand.NewSource(7))
	for range 50 {
		d.Crash(rnd.Uint64(), rnd.Intn(3), rnd.Intn(300))
		holds(t, d, 0, mixed(1), mixed(2))
	}
	put(t, d, 1, mixed(3))
	d.Sync()
	for i := range 50 {
		put(t, d, 1, mixed(9))
		d.Crash(all&^1, i%2, rnd.Intn(300))
		holds(t, d, 0, mixed(1), mixed(3))
	}
	put(t, d, 0, mixed(4))
	d.Crash(1, 1, 0)
	put(t, d, 1, mixed(5))
	d.Crash(1, 0, 256)
	for range 50 {
		d.Crash(rnd.Uint64(), rnd.Intn(3), rnd.Intn(300))
		holds(t, d, 0, mixed(4), mixed(5))
	}
}

// P7.4: a write that is pending, or lost or torn, leaves the pages beside its own alone.
func TestNeighboursStay(t *testing.T) {
	for page := range 3 {
		for _, part := range []int{0, 1, 255, 256, 300} {
			d, _ := Image(bytes.Join([][]byte{mixed(1), mixed(2), mixed(3)}, nil))
			want := [][]byte{mixed(1), mixed(2), mixed(3)}
			put(t, d, page, full(0xff))
			d.Crash(1, 0, part)
			want[page] = cut(full(0xff), min(part, 256), want[page])
			holds(t, d, 0, want...)
		}
	}
}

// P7.4
func TestNilDevice(t *testing.T) {
	var d *Device
	for _, i := range []int{-1, 0, 1, 512, math.MinInt, math.MaxInt} {
		unread(t, d, i)
		for _, b := range [][]byte{nil, full(1), full(1)[:255]} {
			if err := d.Write(i, b); err != api.ErrArg {
				t.Errorf("Write to %d: %d", i, err)
			}
		}
	}
	d.Sync()
	d.Crash(all, 0, 1)
	d.Crash(0, -1, -1)
	if d.Pages() != 0 || d.Waiting() != 0 || len(d.Bytes()) != 0 {
		t.Error("a nil Device has something")
	}
}

// R1: a Device that was declared, not made by New, has no pages.
func TestZeroDevice(t *testing.T) {
	var d Device
	refused(t, &d, 0, full(1))
	unread(t, &d, 0)
	d.Sync()
	d.Crash(all, 0, 1)
	if d.Pages() != 0 || d.Waiting() != 0 || len(d.Bytes()) != 0 {
		t.Error("a zero Device has something")
	}
}

// R3: bytes that go in are not kept, pending, stored or as an image, and not changed, nor is what is behind them.
func TestBytesThatGoIn(t *testing.T) {
	room := append(mixed(1), mixed(2)...)
	before := bytes.Clone(room)
	image, _ := Image(room[:300])
	d := New(2)
	put(t, d, 0, room[:256])
	put(t, d, 1, room[256:])
	d.Crash(1, 0, 256)
	put(t, d, 1, room[256:])
	put(t, image, 0, full(9))
	image.Sync()
	if !bytes.Equal(room, before) {
		t.Fatal("the bytes, or what is behind them, were changed")
	}
	for i := range room {
		room[i] = 0xaa
	}
	holds(t, d, 1, mixed(1), mixed(2))
	d.Sync()
	holds(t, d, 0, mixed(1), mixed(2))
	holds(t, image, 0, full(9), cut(mixed(2), 44, full(0)))
}

// spoil changes all bytes of a result, and those behind it.
func spoil(b []byte) {
	b = b[:cap(b)]
	for i := range b {
		b[i] = 0xaa
	}
}

// R3: bytes that come out share memory with nothing, whether they are pending or stored.
func TestBytesThatComeOut(t *testing.T) {
	d := New(3)
	put(t, d, 0, mixed(1))
	put(t, d, 1, mixed(2))
	d.Sync()
	put(t, d, 1, mixed(3))
	for range 2 {
		for i := range 3 {
			b, _ := d.Read(i)
			other, _ := d.Read(i)
			spoil(b)
			holds(t, d, 1, mixed(1), mixed(3), full(0))
			if !bytes.Equal(other, [][]byte{mixed(1), mixed(3), full(0)}[i]) {
				t.Error("two results of Read share memory")
			}
		}
		b, other := d.Bytes(), d.Bytes()
		spoil(b)
		holds(t, d, 1, mixed(1), mixed(3), full(0))
		if !bytes.Equal(other, bytes.Join([][]byte{mixed(1), mixed(3), full(0)}, nil)) {
			t.Error("two results of Bytes share memory")
		}
	}
	b, _ := d.Read(1)
	whole := d.Bytes()
	put(t, d, 1, mixed(4))
	d.Sync()
	d.Crash(0, 0, 0)
	put(t, d, 0, mixed(5))
	if !bytes.Equal(b, mixed(3)) || !bytes.Equal(whole, bytes.Join([][]byte{mixed(1), mixed(3), full(0)}, nil)) {
		t.Error("results change with the device")
	}
}

// R6: a device has nothing of another one, nor of one that was made from its bytes.
func TestDevicesAreApart(t *testing.T) {
	a := New(2)
	put(t, a, 0, mixed(1))
	put(t, a, 1, mixed(2))
	b, _ := Image(a.Bytes())
	c := New(2)
	holds(t, b, 0, mixed(1), mixed(2))
	put(t, b, 0, mixed(3))
	b.Sync()
	put(t, c, 1, mixed(4))
	a.Crash(1, -1, 0)
	holds(t, a, 0, mixed(1), full(0))
	holds(t, b, 0, mixed(3), mixed(2))
	holds(t, c, 1, full(0), mixed(4))
}

// run performs a list of calls, each of four bytes, on a device and on its model, and compares them behind each call.
func run(t *testing.T, pages int, calls []byte) {
	t.Helper()
	d, m := New(pages), newModel(pages)
	for ; len(calls) >= 4; calls = calls[4:] {
		i, x, y := int(calls[1])-1, calls[2], calls[3]
		switch calls[0] % 8 {
		case 0:
			d.Sync()
			m.sync()
		case 1:
			keep := uint64(x) * 0x0101010101010101 >> (y % 8)
			d.Crash(keep, i%8, 3*int(y)-100)
			m.crash(keep, i%8, 3*int(y)-100)
		case 2:
			b := make([]byte, int(x)+int(y))
			if got, want := d.Write(i%5, b), m.write(i%5, b); got != want {
				t.Fatalf("Write of %d bytes to %d: %d", len(b), i%5, got)
			}
		default:
			if got, want := d.Write(i%5, mixed(x)), m.write(i%5, mixed(x)); got != want {
				t.Fatalf("Write to %d: %d", i%5, got)
			}
		}
		same(t, d, m)
	}
}

// P7.2, P7.3, P7.4: many calls in any order.
func TestManyCalls(t *testing.T) {
	rnd := rand.New(rand.NewSource(77))
	for n := range 200 {
		calls := make([]byte, 4*60)
		rnd.Read(calls)
		run(t, n%6, calls)
	}
}

// FuzzAnyCalls performs any calls, and compares what is seen of the device with the model.
func FuzzAnyCalls(f *testing.F) {
	f.Add(2, []byte{3, 1, 1, 0, 1, 1, 1, 34})
	f.Add(3, []byte{3, 1, 1, 0, 3, 2, 2, 0, 3, 1, 3, 0, 1, 3, 5, 34, 0, 0, 0, 0})
	f.Fuzz(func(t *testing.T, pages int, calls []byte) {
		run(t, min(max(pages, 0), 6), calls[:min(len(calls), 400)])
	})
}
