package ledger

import (
	"maps"
	"math"
	"math/rand"
	"slices"
	"testing"

	"sapwood/api"
)

// far are numbers that are a page of no ledger.
var far = []int{math.MinInt, math.MinInt + 2, math.MinInt32, -1<<32 + 3, -1 << 16, -513, -512, -510, -3, -2, -1, 512, 513, 514, 1024, 1 << 16, 1<<16 + 2, 1<<32 + 2, 1<<32 + 3, math.MaxInt32, math.MaxInt - 1, math.MaxInt}

// sizes are numbers of pages, with the numbers that a ledger made of them has.
var sizes = [][2]int{
	{math.MinInt, 0}, {-1 << 32, 0}, {-512, 0}, {-2, 0}, {-1, 0},
	{0, 0}, {1, 1}, {2, 2}, {3, 3}, {4, 4}, {9, 9}, {64, 64}, {100, 100}, {511, 511}, {512, 512},
	{513, 512}, {514, 512}, {1 << 20, 512}, {1<<32 + 3, 512}, {math.MaxInt, 512},
}

// model is a ledger by the chapter's words: a number of pages, and sets of them.
type model struct {
	pages               int
	older, newer, taken map[int]bool
}

func newModel(pages int) *model {
	return &model{pages: pages, older: map[int]bool{}, newer: map[int]bool{}, taken: map[int]bool{}}
}

// set is the set of those numbers that are not ignored.
func (m *model) set(list []int) map[int]bool {
	out := map[int]bool{}
	for _, i := range list {
		if i > 1 && i < m.pages {
			out[i] = true
		}
	}
	return out
}

func (m *model) inUse(i int) bool {
	first := i == 0 || i == 1
	return i >= 0 && i < m.pages && (first || m.older[i] || m.newer[i] || m.taken[i])
}

// free is the list of free pages, in ascending order.
func (m *model) free() []int {
	var out []int
	for i := range m.pages {
		if !m.inUse(i) {
			out = append(out, i)
		}
	}
	return out
}

func (m *model) take() (int, api.Errno) {
	free := m.free()
	if len(free) == 0 {
		return 0, api.ErrFull
	}
	m.taken[free[0]] = true
	return free[0], api.OK
}

func (m *model) commit(pages []int) { m.reset(nil, pages, m.newer) }

// reset sets what the trees hold; old is what the older one holds beside its list.
func (m *model) reset(older, newer []int, old map[int]bool) {
	held := m.set(older)
	for i := range old {
		held[i] = true
	}
	m.older, m.newer, m.taken = held, m.set(newer), map[int]bool{}
}

// checked is a ledger and its model, which are compared behind each call.
type checked struct {
	t *testing.T
	l *Ledger
	m *model
}

func start(t *testing.T, pages int) *checked {
	t.Helper()
	c := &checked{t, New(pages), newModel(pages)}
	c.same()
	return c
}

// same checks Free, and InUse of each number.
func (c *checked) same() {
	c.t.Helper()
	free := len(c.m.free())
	if c.l.Free() != free {
		c.t.Fatalf("Free of %d pages: %d, not %d", c.m.pages, c.l.Free(), free)
	}
	used := 0
	for i := -3; i < c.m.pages+3; i++ {
		if c.l.InUse(i) != c.m.inUse(i) {
			c.t.Fatalf("InUse of %d, of %d pages: %t", i, c.m.pages, c.l.InUse(i))
		}
		if c.l.InUse(i) {
			used++
		}
	}
	if c.l.Free() != c.m.pages-used {
		c.t.Fatalf("Free of %d pages: %d, of which %d are in use", c.m.pages, c.l.Free(), used)
	}
	for _, i := range far {
		if c.l.InUse(i) {
			c.t.Fatalf("InUse of %d, of %d pages", i, c.m.pages)
		}
	}
}

// take is a Take of both.
func (c *checked) take() {
	c.t.Helper()
	i, err := c.l.Take()
	if want, wantErr := c.m.take(); i != want || err != wantErr {
		c.t.Fatalf("Take of %d pages: %d, %d, not %d, %d", c.m.pages, i, err, want, wantErr)
	}
	c.same()
}

// takes checks that Take returns these pages, one after another.
func (c *checked) takes(pages ...int) {
	c.t.Helper()
	for _, want := range pages {
		free := c.m.free()
		if len(free) == 0 || free[0] != want {
			c.t.Fatalf("the least free page is not %d, of %v", want, free)
		}
		c.take()
	}
}

// full checks that Take returns ErrFull and no page, however often.
func (c *checked) full() {
	c.t.Helper()
	for range 3 {
		if i, err := c.l.Take(); i != 0 || err != api.ErrFull {
			c.t.Fatalf("Take of %d pages: %d, %d, not ErrFull", c.m.pages, i, err)
		}
		c.same()
	}
}

// commit is a Commit of both; the list is changed behind the call.
func (c *checked) commit(pages ...int) {
	c.t.Helper()
	c.lend(pages, c.l.Commit)
	c.m.commit(pages)
	c.same()
}

// reset is a Reset of both; the lists are changed behind the call.
func (c *checked) reset(older, newer []int) {
	c.t.Helper()
	c.lend(older, func(a []int) {
		c.lend(newer, func(b []int) { c.l.Reset(a, b) })
	})
	c.m.reset(older, newer, nil)
	c.same()
}

func (c *checked) abort() {
	c.t.Helper()
	c.l.Abort()
	c.m.taken = map[int]bool{}
	c.same()
}

// lend calls use with a copy of a list that has other pages behind it, checks that none of them was changed, and changes all (R3).
func (c *checked) lend(list []int, use func([]int)) {
	c.t.Helper()
	room := append(slices.Clone(list), 2, 3, 4, c.m.pages-1)
	before := slices.Clone(room)
	use(room[:len(list)])
	if !slices.Equal(room, before) {
		c.t.Fatalf("the list %v, or what is behind it, was changed: %v", before, room)
	}
	for i := range room {
		room[i] = 2 + i%3
	}
}

// uses checks that of the pages from 2 on exactly these are in use.
func (c *checked) uses(pages ...int) {
	c.t.Helper()
	for i := 2; i < c.m.pages; i++ {
		if c.l.InUse(i) != slices.Contains(pages, i) {
			c.t.Fatalf("InUse of %d: %t; only %v should be in use", i, c.l.InUse(i), pages)
		}
	}
	if free := max(c.m.pages-2, 0) - len(pages); c.l.Free() != free {
		c.t.Fatalf("Free: %d, not %d", c.l.Free(), free)
	}
}

// upTo lists the pages from 2 on, below an end.
func upTo(end int) []int {
	var out []int
	for i := 2; i < end; i++ {
		out = append(out, i)
	}
	return out
}

// P13.1: the chapter's example.
func TestExample(t *testing.T) {
	c := start(t, 4)
	c.takes(2, 3)
	c.full()
	c.commit(2)
	c.takes(3)
	c.commit(3)
	c.full()
	c.commit()
	c.takes(2)
	c.full()
}

// P13.1, P13.2: ledgers of fewer pages than none, of none, and up to more than the most.
func TestNew(t *testing.T) {
	for _, size := range sizes {
		l := New(size[0])
		if l == nil {
			t.Fatalf("New of %d: nil", size[0])
		}
		c := &checked{t, l, newModel(size[1])}
		c.same()
		c.uses()
		all := upTo(size[1])
		c.takes(all...)
		c.uses(all...)
		c.full()
		c.abort()
		c.uses()
		c.takes(all...)
		c.commit(all...)
		c.full()
		c.commit()
		c.full()
		c.commit()
		c.takes(all...)
		c.full()
	}
}

// P13.1: the first two pages are in use, and never allocated, as far as there are any.
func TestFirstPages(t *testing.T) {
	for pages, want := range [][3]bool{{false, false, false}, {true, false, false}, {true, true, false}, {true, true, false}, {true, true, false}} {
		l := New(pages)
		for range 3 {
			if got := [3]bool{l.InUse(0), l.InUse(1), l.InUse(2)}; got != want {
				t.Errorf("InUse of 0, 1 and 2, of %d pages: %v", pages, got)
			}
			if l.Free() != max(pages-2, 0) {
				t.Errorf("Free of %d pages: %d", pages, l.Free())
			}
			l.Commit([]int{0, 1})
			l.Reset([]int{1, 0}, []int{0})
			l.Abort()
		}
		if i, err := l.Take(); pages > 2 && (i != 2 || err != api.OK) || pages <= 2 && (i != 0 || err != api.ErrFull) {
			t.Errorf("Take of %d pages: %d, %d", pages, i, err)
		}
	}
}

// P13.1: always the least free page, behind every kind of call.
func TestLeastFreePage(t *testing.T) {
	c := start(t, 9)
	c.takes(2, 3, 4)
	c.abort()
	c.takes(2, 3, 4, 5)
	c.commit(5, 3)
	c.takes(2, 4, 6, 7, 8)
	c.full()
	c.abort()
	c.takes(2)
	c.commit()
	c.takes(2, 4, 6)
	c.commit()
	c.takes(2, 3, 4, 5, 6, 7, 8)
	c.full()
	c.commit(upTo(9)...)
	c.full()
	c.reset([]int{8, 2}, []int{5})
	c.takes(3, 4, 6, 7)
	c.full()
	c.reset(nil, nil)
	c.takes(upTo(9)...)
	c.full()
}

// P13.1: Commit of some, of all and of none of what was taken; the rest is given up.
func TestCommitOfWhatWasTaken(t *testing.T) {
	for _, list := range [][]int{nil, {}, {2}, {3}, {4}, {2, 4}, {4, 3}, {2, 3, 4}, {4, 3, 2}} {
		c := start(t, 6)
		c.takes(2, 3, 4)
		c.commit(list...)
		c.uses(list...)
		c.abort()
		c.uses(list...)
		c.commit()
		c.uses(list...)
		c.commit()
		c.uses()
	}
}

// P13.1: Commit of pages that nobody has taken.
func TestCommitOfPagesThatWereNotTaken(t *testing.T) {
	c := start(t, 8)
	c.commit(7, 3)
	c.uses(3, 7)
	c.takes(2, 4)
	c.commit(5)
	c.uses(3, 5, 7)
	c.takes(2, 4, 6)
	c.full()
	c.commit(2, 7)
	c.uses(2, 5, 7)
}

// P13.1, P13.3: what the two trees hold, behind each of several commits.
func TestSeveralCommits(t *testing.T) {
	c := start(t, 10)
	c.commit(2, 3)
	c.uses(2, 3)
	c.commit(4)
	c.uses(2, 3, 4)
	c.commit(5, 6)
	c.uses(4, 5, 6)
	c.commit(2)
	c.uses(2, 5, 6)
	c.commit()
	c.uses(2)
	c.commit(9)
	c.uses(9)
	c.commit()
	c.uses(9)
	c.commit()
	c.uses()
}

// P13.1, P13.3: pages that the older tree, the newer one, or both hold already are held anew.
func TestCommitOfWhatIsHeld(t *testing.T) {
	for _, again := range [][]int{{2}, {3}, {2, 3}, {3, 2, 4}} {
		c := start(t, 6)
		c.commit(2)
		c.commit(3)
		c.commit(again...)
		both := slices.Clone(again)
		if !slices.Contains(both, 3) {
			both = append(both, 3)
		}
		c.uses(both...)
		c.commit()
		c.uses(again...)
		c.commit()
		c.uses()
	}
	c := start(t, 6)
	for range 4 {
		c.commit(2, 5)
		c.uses(2, 5)
	}
	c.commit(5)
	c.uses(2, 5)
	c.commit()
	c.uses(5)
	c.commit()
	c.uses()
}

// P13.1, P13.2: a page that is told twice counts once, and is free as soon as any other.
func TestSamePageTwice(t *testing.T) {
	c := start(t, 6)
	c.takes(2, 3)
	c.commit(4, 4, 2, 4)
	c.uses(2, 4)
	c.commit(3, 3)
	c.uses(2, 3, 4)
	c.commit()
	c.uses(3)
	c.commit()
	c.uses()
	c.reset([]int{5, 5}, []int{5, 2, 5})
	c.uses(2, 5)
	c.commit()
	c.uses(2, 5)
	c.commit()
	c.uses()
}

// R4: a nil list is one of no pages.
func TestNoPages(t *testing.T) {
	for _, none := range [][]int{nil, {}, upTo(5)[:0]} {
		l := New(5)
		l.Take()
		l.Commit(none)
		l.Take()
		l.Reset(none, none)
		c := &checked{t, l, newModel(5)}
		c.same()
		l.Reset(none, []int{2})
		c.m.reset(nil, []int{2}, nil)
		c.same()
		l.Commit(none)
		c.m.commit(nil)
		c.same()
		l.Commit(none)
		c.m.commit(nil)
		c.uses()
		l.Reset([]int{3}, none)
		c.m.reset([]int{3}, nil, nil)
		c.uses(3)
	}
}

// P13.1: Abort gives up what is taken, and nothing that is held.
func TestAbort(t *testing.T) {
	c := start(t, 8)
	c.abort()
	c.uses()
	c.commit(3)
	c.abort()
	c.uses(3)
	c.commit(4)
	c.abort()
	c.uses(3, 4)
	c.takes(2, 5, 6)
	c.uses(2, 3, 4, 5, 6)
	c.abort()
	c.uses(3, 4)
	c.abort()
	c.uses(3, 4)
	c.takes(2, 5, 6, 7)
	c.full()
	c.abort()
	c.uses(3, 4)
}

// P13.1, P13.3: a page that was taken and is held from then on is not given up by Abort.
func TestAbortOfTakenPagesThatAreHeld(t *testing.T) {
	c := start(t, 6)
	c.takes(2, 3)
	c.commit(2, 3)
	c.abort()
	c.uses(2, 3)
	c.takes(4)
	c.reset([]int{4}, []int{5})
	c.abort()
	c.uses(4, 5)
	c.takes(2)
	c.reset(nil, []int{2})
	c.abort()
	c.uses(2)
	c.commit()
	c.abort()
	c.uses(2)
}

// P13.1: Reset with lists that overlap, in part or wholly, and behind Take and Commit.
func TestReset(t *testing.T) {
	befores := []func(*checked){
		func(c *checked) {},
		func(c *checked) { c.takes(2, 3) },
		func(c *checked) { c.commit(2, 5) },
		func(c *checked) { c.commit(3); c.commit(4); c.takes(2) },
		func(c *checked) { c.reset([]int{3, 5}, []int{5, 4}) },
		func(c *checked) { c.takes(2, 3, 4, 5); c.full() },
	}
	for _, lists := range [][2][]int{
		{nil, nil}, {{2}, nil}, {nil, {2}}, {{2}, {2}}, {{2}, {3}}, {{3, 2}, {2, 4}}, {{2, 3, 4, 5}, {4}}, {{4}, {5, 2, 3, 4}}, {{2, 3}, {4, 5}}, {{5, 4, 3, 2}, {2, 3, 4, 5}},
	} {
		both := slices.Concat(lists[0], lists[1])
		slices.Sort(both)
		both = slices.Compact(both)
		for _, before := range befores {
			c := start(t, 6)
			before(c)
			c.reset(lists[0], lists[1])
			c.uses(both...)
			c.abort()
			c.uses(both...)
			c.commit()
			c.uses(lists[1]...)
			c.commit()
			c.uses()
		}
	}
}

// P13.1: with Reset, the newer tree's pages are held longer than the older one's.
func TestWhichTreeIsTheOlder(t *testing.T) {
	c := start(t, 6)
	c.reset([]int{2, 3}, []int{3, 4})
	c.uses(2, 3, 4)
	c.commit(5)
	c.uses(3, 4, 5)
	c.takes(2)
	c.full()
	c.commit()
	c.uses(5)
}

// P13.1, P13.2: numbers that are no pages, and the first two pages, are ignored, beside others or alone.
func TestIgnoredNumbers(t *testing.T) {
	for _, size := range sizes {
		pages := size[1]
		ignored := slices.Concat(far, []int{0, 1, -1, pages, pages + 1, pages + 2})
		last := []int{}
		if pages > 2 {
			last = append(last, pages-1)
		}
		c := start(t, pages)
		for _, i := range ignored {
			c.commit(i)
			c.uses()
			c.reset([]int{i}, []int{i})
			c.uses()
			c.commit(slices.Concat([]int{i}, last, []int{i, i})...)
			c.uses(last...)
			c.reset(append([]int{i}, last...), []int{i})
			c.uses(last...)
			c.reset([]int{i}, append([]int{i}, last...))
			c.uses(last...)
			c.reset(nil, nil)
		}
		c.commit(ignored...)
		c.commit(slices.Concat(ignored, last, ignored)...)
		c.uses(last...)
		c.reset(slices.Concat(ignored, last), slices.Concat(last, ignored))
		c.uses(last...)
		c.commit()
		c.commit()
		c.takes(upTo(pages)...)
		c.full()
	}
}

// P13.2: each page alone, from the first to the last one, and the one behind it.
func TestEachPage(t *testing.T) {
	for _, pages := range []int{3, 4, 63, 64, 65, 511, 512} {
		c := start(t, pages)
		for i := 2; i <= pages; i++ {
			want := []int{i}
			if i == pages {
				want = nil
			}
			c.commit(i)
			c.uses(want...)
			c.commit()
			c.uses(want...)
			c.reset([]int{i}, nil)
			c.uses(want...)
			c.commit()
			c.uses()
			c.reset(nil, []int{i})
			c.uses(want...)
			c.reset(nil, nil)
		}
	}
}

// P13.3: no page is returned twice before it is given up, and what a tree holds stays through the next Commit, without the model.
func TestNothingIsLostTooEarly(t *testing.T) {
	rnd := rand.New(rand.NewSource(13))
	for n := range 60 {
		l := New(3 + n)
		var older, newer []int
		for range 40 {
			taken := takeSome(t, l, rnd.Intn(2+n), slices.Concat(older, newer))
			if rnd.Intn(4) == 0 {
				l.Abort()
				for _, i := range taken {
					if l.InUse(i) {
						t.Fatalf("page %d is in use behind Abort", i)
					}
				}
				continue
			}
			rnd.Shuffle(len(taken), func(i, j int) { taken[i], taken[j] = taken[j], taken[i] })
			keep := taken[:rnd.Intn(len(taken)+1)]
			l.Commit(slices.Clone(keep))
			older, newer = newer, keep
			for _, i := range slices.Concat(older, newer) {
				if !l.InUse(i) {
					t.Fatalf("page %d is held, but not in use", i)
				}
			}
			if want := 1 + n - len(older) - len(newer); l.Free() != want {
				t.Fatalf("Free: %d, not %d", l.Free(), want)
			}
		}
	}
}

// takeSome takes pages, at most as many as most, and checks that none of them is held, nor returned before.
func takeSome(t *testing.T, l *Ledger, most int, held []int) []int {
	t.Helper()
	var taken []int
	for range most {
		i, err := l.Take()
		if err != api.OK {
			break
		}
		if slices.Contains(held, i) || slices.Contains(taken, i) {
			t.Fatalf("page %d is allocated again; %v are held, and %v taken", i, held, taken)
		}
		taken = append(taken, i)
	}
	return taken
}

// noPages checks every function of a ledger that has no pages.
func noPages(t *testing.T, l *Ledger) {
	t.Helper()
	lists := [][]int{nil, {}, {0}, {1}, {2, 3}, upTo(512), far}
	for _, list := range lists {
		l.Commit(list)
		l.Abort()
		for _, other := range lists {
			l.Reset(list, other)
		}
		if i, err := l.Take(); i != 0 || err != api.ErrFull {
			t.Fatalf("Take: %d, %d", i, err)
		}
		if l.Free() != 0 {
			t.Fatalf("Free: %d", l.Free())
		}
		for i := -3; i < 520; i++ {
			if l.InUse(i) {
				t.Fatalf("InUse of %d", i)
			}
		}
		for _, i := range far {
			if l.InUse(i) {
				t.Fatalf("InUse of %d", i)
			}
		}
	}
}

// P13.3, R1
func TestNilLedger(t *testing.T) {
	noPages(t, nil)
}

// P13.3, R1
func TestZeroLedger(t *testing.T) {
	noPages(t, &Ledger{})
	noPages(t, new(Ledger))
	noPages(t, New(0))
	noPages(t, New(-1))
}

// R3: lists are not kept, not even between two calls that tell the same one.
func TestListsThatGoIn(t *testing.T) {
	l := New(8)
	list := []int{2, 3, 7}
	l.Commit(list)
	list[0], list[2] = 4, 5
	c := &checked{t, l, newModel(8)}
	c.uses(2, 3, 7)
	l.Commit(list)
	list[1] = 6
	c.uses(2, 3, 4, 5, 7)
	l.Commit(list[:0])
	c.uses(3, 4, 5)
	list = []int{2, 3, 7}
	l.Reset(list, list)
	list[0], list[1], list[2] = 4, 5, 6
	c.uses(2, 3, 7)
	l.Commit(nil)
	c.uses(2, 3, 7)
	l.Reset(list[:1], list[1:2])
	list[0], list[1] = 2, 2
	c.uses(4, 5)
	if list[2] != 6 {
		t.Error("what is behind a list was changed")
	}
}

// R6: ledgers have nothing of each other.
func TestLedgersAreApart(t *testing.T) {
	a, b := start(t, 5), start(t, 5)
	a.takes(2, 3)
	b.takes(2)
	a.commit(3)
	b.uses(2)
	b.takes(3, 4)
	b.full()
	a.uses(3)
	b.reset(nil, []int{4})
	a.abort()
	a.uses(3)
	b.uses(4)
	b.takes(2, 3)
	a.reset(nil, nil)
	b.full()
}

// subsets lists all lists of pages from 2 on, below an end, in ascending order.
func subsets(end int) [][]int {
	out := [][]int{nil}
	for i := 2; i < end; i++ {
		for _, s := range out {
			out = append(out, append(slices.Clone(s), i))
		}
	}
	return out
}

// P13.1, P13.2, P13.3: every sequence of three calls, in small ledgers.
func TestAllShortSequences(t *testing.T) {
	for pages := range 5 {
		calls := []func(*checked){(*checked).take, (*checked).abort}
		for _, a := range subsets(pages) {
			calls = append(calls, func(c *checked) { c.commit(a...) })
			for _, b := range subsets(pages) {
				calls = append(calls, func(c *checked) { c.reset(a, b) })
			}
		}
		for _, first := range calls {
			for _, second := range calls {
				for _, third := range calls {
					c := start(t, pages)
					first(c)
					second(c)
					third(c)
					c.commit()
					c.take()
					c.commit()
				}
			}
		}
	}
}

// run performs calls, each of them given by a byte and, for lists, by the bytes that follow, and compares behind each one.
func run(t *testing.T, pages int, calls []byte) {
	t.Helper()
	c := start(t, pages)
	list := func() []int {
		var out []int
		if len(calls) == 0 {
			return out
		}
		n := min(int(calls[0]%16), len(calls)-1)
		for _, x := range calls[1 : n+1] {
			out = append(out, number(pages, x))
		}
		calls = calls[n+1:]
		return out
	}
	for len(calls) > 0 {
		kind := calls[0] % 16
		calls = calls[1:]
		switch kind {
		case 0:
			c.abort()
		case 1, 2:
			c.commit(list()...)
		case 3:
			older := list()
			c.reset(older, list())
		case 4:
			c.commit(slices.Sorted(maps.Keys(c.m.older))...)
		case 5:
			c.commit(slices.Sorted(maps.Keys(c.m.taken))...)
		default:
			c.take()
		}
	}
}

// number is mostly a page, and sometimes none.
func number(pages int, x byte) int {
	switch {
	case x > 245:
		return far[int(x)%len(far)]
	case pages > 300:
		return int(x)*2 + int(x)%2 - 2
	default:
		return int(x)%(pages+4) - 2
	}
}

// P13.1, P13.2, P13.3: many calls in any order.
func TestManyCalls(t *testing.T) {
	rnd := rand.New(rand.NewSource(1313))
	for n := range 300 {
		calls := make([]byte, 300)
		rnd.Read(calls)
		run(t, n%24, calls)
	}
	for _, pages := range []int{64, 65, 300, 511, 512} {
		for range 5 {
			calls := make([]byte, 800)
			rnd.Read(calls)
			run(t, pages, calls)
		}
	}
}

// FuzzAnyCalls performs any calls, and compares the ledger with the model behind each one.
func FuzzAnyCalls(f *testing.F) {
	f.Add(4, []byte{6, 6, 6, 1, 1, 4, 6, 1, 1, 5, 6, 1, 0, 6})
	f.Add(9, []byte{6, 6, 5, 6, 5, 6, 0, 3, 2, 4, 5, 2, 5, 6, 6, 4, 6})
	f.Fuzz(func(t *testing.T, pages int, calls []byte) {
		run(t, min(max(pages, 0), 512), calls[:min(len(calls), 400)])
	})
}
