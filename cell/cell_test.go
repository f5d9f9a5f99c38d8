package cell

import (
	"math"
	"math/rand"
	"strconv"
	"testing"

	"sapwood/api"
)

// point is a word with two parts.
type point struct {
	X    int
	Name string
}

// model is a memory by the chapter's words: what each step set, one after another, and how many steps and changes there were.
type model[T comparable] struct {
	size           int
	log            []setting[T]
	steps, changes int
}

type setting[T comparable] struct {
	at int
	x  T
}

func (m *model[T]) has(i int) bool { return i >= 0 && i < m.size }

// word is what the last step that set the word left there.
func (m *model[T]) word(i int) T {
	var x T
	for _, s := range m.log {
		if s.at == i {
			x = s.x
		}
	}
	return x
}

func (m *model[T]) load(i int) (T, api.Errno) {
	var x T
	if !m.has(i) {
		return x, api.ErrArg
	}
	m.steps++
	return m.word(i), api.OK
}

func (m *model[T]) store(i int, x T) api.Errno {
	if !m.has(i) {
		return api.ErrArg
	}
	m.steps++
	m.log = append(m.log, setting[T]{i, x})
	return api.OK
}

func (m *model[T]) cas(i int, old, x T) (bool, api.Errno) {
	if !m.has(i) {
		return false, api.ErrArg
	}
	m.steps++
	if m.word(i) != old {
		return false, api.OK
	}
	m.changes++
	m.log = append(m.log, setting[T]{i, x})
	return true, api.OK
}

// counts checks how many steps and changes there were; asking is none of them.
func counts[T comparable](t *testing.T, m *Memory[T], steps, changes int) {
	t.Helper()
	for range 2 {
		if m.Steps() != steps || m.Changes() != changes {
			t.Errorf("%d steps and %d changes, not %d and %d", m.Steps(), m.Changes(), steps, changes)
		}
	}
}

// loads checks a word by loading it, which is a step.
func loads[T comparable](t *testing.T, m *Memory[T], i int, want T) {
	t.Helper()
	steps, changes := m.Steps(), m.Changes()
	if x, err := m.Load(i); err != api.OK || x != want {
		t.Errorf("Load of %d: %v, %d, not %v", i, x, err, want)
	}
	counts(t, m, steps+1, changes)
}

// stores sets a word, which is a step.
func stores[T comparable](t *testing.T, m *Memory[T], i int, x T) {
	t.Helper()
	steps, changes := m.Steps(), m.Changes()
	if err := m.Store(i, x); err != api.OK {
		t.Errorf("Store to %d: %d", i, err)
	}
	counts(t, m, steps+1, changes)
}

// swaps checks what CAS reports, which is a step, and a change if it is true.
func swaps[T comparable](t *testing.T, m *Memory[T], i int, old, x T, want bool) {
	t.Helper()
	steps, changes := m.Steps(), m.Changes()
	if want {
		changes++
	}
	if ok, err := m.CAS(i, old, x); err != api.OK || ok != want {
		t.Errorf("CAS of %d from %v to %v: %t, %d", i, old, x, ok, err)
	}
	counts(t, m, steps+1, changes)
}

// lacks checks that there is no word i, and that asking for it is not a step.
func lacks[T comparable](t *testing.T, m *Memory[T], i int, old, x T) {
	t.Helper()
	var zero T
	steps, changes := m.Steps(), m.Changes()
	if w, err := m.Load(i); err != api.ErrArg || w != zero {
		t.Errorf("Load of %d: %v, %d", i, w, err)
	}
	counts(t, m, steps, changes)
	if err := m.Store(i, x); err != api.ErrArg {
		t.Errorf("Store to %d: %d", i, err)
	}
	counts(t, m, steps, changes)
	for _, was := range []T{zero, old, x} {
		if ok, err := m.CAS(i, was, x); ok || err != api.ErrArg {
			t.Errorf("CAS of %d: %t, %d", i, ok, err)
		}
		counts(t, m, steps, changes)
	}
}

// P8.1: the chapter's example.
func TestExample(t *testing.T) {
	m := New[int](1)
	swaps(t, m, 0, 0, 7, true)
	swaps(t, m, 0, 0, 8, false)
	loads(t, m, 0, 7)
	counts(t, m, 3, 1)
}

// P8.1: fewer words than none, none, and more than there can be.
func TestNew(t *testing.T) {
	for _, c := range [][2]int{
		{-1, 0}, {-2, 0}, {-65536, 0}, {math.MinInt, 0}, {0, 0}, {1, 1}, {2, 2}, {255, 255}, {256, 256}, {1000, 1000}, {65535, 65535},
		{65536, 65536}, {65537, 65536}, {1 << 20, 65536}, {1<<32 + 3, 65536}, {math.MaxInt, 65536},
	} {
		m := New[int](c[0])
		if m == nil {
			t.Fatalf("New of %d: nil", c[0])
		}
		counts(t, m, 0, 0)
		for i := range c[1] {
			if x, err := m.Load(i); x != 0 || err != api.OK {
				t.Fatalf("Load of %d, after New of %d: %d, %d", i, c[0], x, err)
			}
		}
		counts(t, m, c[1], 0)
		lacks(t, m, -1, 0, 5)
		lacks(t, m, c[1], 0, 5)
	}
}

// P8.1, R2: words below 0, the first, the last, and beyond.
func TestWhichWords(t *testing.T) {
	for _, n := range []int{0, 1, 2, 3, 65535, 65536, 65537} {
		m := New[string](n)
		n = min(n, 65536)
		if n > 0 {
			swaps(t, m, n-1, "", "last", true)
			stores(t, m, 0, "first")
		}
		for _, i := range []int{-1, -2, -n, -n - 1, -65536, -1 << 32, math.MinInt, n, n + 1, 2 * n, 65536, 65537, 1 << 32, math.MaxInt} {
			if i < 0 || i >= n {
				lacks(t, m, i, "first", "new")
				lacks(t, m, i, "last", "new")
			}
		}
		if n > 0 {
			loads(t, m, 0, "first")
		}
		if n > 1 {
			loads(t, m, n-1, "last")
			swaps(t, m, n-1, "first", "new", false)
			swaps(t, m, n-1, "last", "new", true)
			stores(t, m, n-1, "newer")
			loads(t, m, n-1, "newer")
			loads(t, m, 0, "first")
		}
	}
}

// P8.1: each word has its own place.
func TestAllWords(t *testing.T) {
	m := New[int](65536)
	for i := range 65536 {
		var err api.Errno
		ok := true
		if i%2 == 0 {
			ok, err = m.CAS(i, 0, i+1)
		} else {
			err = m.Store(i, i+1)
		}
		if !ok || err != api.OK {
			t.Fatalf("word %d is not set: %t, %d", i, ok, err)
		}
	}
	counts(t, m, 65536, 32768)
	for i := range 65536 {
		if x, err := m.Load(i); x != i+1 || err != api.OK {
			t.Fatalf("Load of %d: %d, %d", i, x, err)
		}
	}
	counts(t, m, 131072, 32768)
}

// P8.1, P8.2: a word that equals the old one, and one that does not.
func TestCAS(t *testing.T) {
	m := New[int](3)
	swaps(t, m, 1, 5, 6, false)
	loads(t, m, 1, 0)
	swaps(t, m, 1, 0, 5, true)
	loads(t, m, 1, 5)
	swaps(t, m, 1, 0, 6, false)
	swaps(t, m, 1, 6, 5, false)
	swaps(t, m, 1, 6, 6, false)
	loads(t, m, 1, 5)
	swaps(t, m, 1, 5, 6, true)
	swaps(t, m, 1, 5, 7, false)
	loads(t, m, 1, 6)
	swaps(t, m, 1, 6, 0, true)
	swaps(t, m, 1, 0, 5, true)
	loads(t, m, 1, 5)
	loads(t, m, 0, 0)
	loads(t, m, 2, 0)
	counts(t, m, 16, 4)
}

// P8.1, P8.2: putting what stands there already is a step, and by CAS a change.
func TestSameWordAgain(t *testing.T) {
	m := New[int](1)
	swaps(t, m, 0, 0, 0, true)
	counts(t, m, 1, 1)
	stores(t, m, 0, 0)
	counts(t, m, 2, 1)
	stores(t, m, 0, 9)
	stores(t, m, 0, 9)
	counts(t, m, 4, 1)
	swaps(t, m, 0, 9, 9, true)
	swaps(t, m, 0, 9, 9, true)
	swaps(t, m, 0, 8, 8, false)
	counts(t, m, 7, 3)
	loads(t, m, 0, 9)
}

// P8.2: each kind of call on its own, several times.
func TestCounts(t *testing.T) {
	m := New[int](2)
	for i := range 5 {
		m.Load(i % 2)
		counts(t, m, i+1, 0)
	}
	for i := range 5 {
		m.Store(i%2, i)
		counts(t, m, i+6, 0)
	}
	for i := range 5 {
		m.CAS(0, -1, i)
		counts(t, m, i+11, 0)
	}
	for i := range 5 {
		m.CAS(0, i+4, i+5)
		counts(t, m, i+16, i+1)
	}
	for i := range 5 {
		m.Load(-1 - i)
		m.Store(2+i, 0)
		m.CAS(2+i, 0, 0)
		counts(t, m, 20, 5)
	}
	loads(t, m, 0, 9)
	loads(t, m, 1, 3)
}

// several checks a memory of words of some type by three that differ and of which none is the zero value.
func several[T comparable](t *testing.T, a, b, c T) {
	t.Helper()
	var zero T
	m := New[T](3)
	for i := range 3 {
		loads(t, m, i, zero)
	}
	for i := range 3 {
		swaps(t, m, i, a, b, false)
		swaps(t, m, i, zero, a, true)
		swaps(t, m, i, zero, b, false)
		loads(t, m, i, a)
		swaps(t, m, i, a, b, true)
		swaps(t, m, i, a, c, false)
		loads(t, m, i, b)
		stores(t, m, i, c)
		swaps(t, m, i, b, a, false)
		swaps(t, m, i, c, c, true)
		loads(t, m, i, c)
		swaps(t, m, i, c, zero, true)
		loads(t, m, i, zero)
		stores(t, m, i, a)
		lacks(t, m, -1, a, b)
		lacks(t, m, 3, zero, c)
	}
	for i := range 3 {
		loads(t, m, i, a)
	}
	counts(t, m, 48, 12)
}

// P8.1, P8.2: words of several types.
func TestTypes(t *testing.T) {
	several(t, 1, -1, math.MinInt)
	several[uint8](t, 1, 128, 255)
	several[uint64](t, 1, 1<<63, math.MaxUint64)
	several(t, 0.5, math.Inf(1), math.Inf(-1))
	several(t, 1i, 1, 1+1i)
	several(t, "a", "ab", "\x00")
	several(t, "a\x00", "a\xff", "\xff")
	several(t, point{1, ""}, point{0, "a"}, point{1, "a"})
	several(t, [2]int{0, 1}, [2]int{1, 0}, [2]int{1, 1})
	several(t, [2]string{"", "a"}, [2]string{"a", ""}, [2]string{"a", "a"})
	several(t, new(int), new(int), new(int))
	several(t, &point{}, &point{}, &point{})
	several(t, make(chan int), make(chan int), make(chan int))
	several[any](t, 0, "", false)
	several[any](t, 1, int64(1), 1.0)
	several[any](t, point{}, &point{}, [0]int{})
	several[error](t, fault(0), fault(1), &strconv.NumError{})
	several(t, api.Entry{Key: "a"}, api.Entry{Value: "a"}, api.Entry{Key: "a", Value: "a"})
}

// fault is an error with a value.
type fault int

func (f fault) Error() string { return strconv.Itoa(int(f)) }

// P8.1: types with fewer words than the others need.
func TestSmallTypes(t *testing.T) {
	yes := New[bool](1)
	swaps(t, yes, 0, true, true, false)
	swaps(t, yes, 0, false, true, true)
	loads(t, yes, 0, true)
	only := New[struct{}](65537)
	swaps(t, only, 65535, struct{}{}, struct{}{}, true)
	loads(t, only, 65535, struct{}{})
	lacks(t, only, 65536, struct{}{}, struct{}{})
	counts(t, only, 2, 1)
}

// P8.2: words with alike contents that are not equal are different words.
func TestPointers(t *testing.T) {
	a, b := &point{1, "a"}, &point{1, "a"}
	m := New[*point](1)
	swaps(t, m, 0, nil, a, true)
	swaps(t, m, 0, b, nil, false)
	loads(t, m, 0, a)
	a.X = 2
	swaps(t, m, 0, b, nil, false)
	swaps(t, m, 0, a, b, true)
	loads(t, m, 0, b)
	swaps(t, m, 0, a, nil, false)
	if *a != (point{2, "a"}) || *b != (point{1, "a"}) {
		t.Error("what a word points to was changed")
	}
}

// P8.2: words that are equal but not alike are swapped, and the new one is put; a word that equals not even itself is never swapped.
func TestFloats(t *testing.T) {
	minus := math.Copysign(0, -1)
	m := New[float64](1)
	swaps(t, m, 0, minus, 0, true)
	swaps(t, m, 0, 0, minus, true)
	if x, err := m.Load(0); err != api.OK || !math.Signbit(x) {
		t.Errorf("the word that was put is not there: %v, %d", x, err)
	}
	swaps(t, m, 0, 0, 0, true)
	if x, err := m.Load(0); err != api.OK || math.Signbit(x) {
		t.Errorf("the word that was put is not there: %v, %d", x, err)
	}
	stores(t, m, 0, minus)
	if x, err := m.Load(0); err != api.OK || !math.Signbit(x) {
		t.Errorf("the word that was stored is not there: %v, %d", x, err)
	}
	swaps(t, m, 0, math.NaN(), 1, false)
	swaps(t, m, 0, 0, math.NaN(), true)
	swaps(t, m, 0, math.NaN(), 1, false)
	swaps(t, m, 0, 0, 1, false)
	if x, err := m.Load(0); err != api.OK || !math.IsNaN(x) {
		t.Errorf("the word that was put is not there: %v, %d", x, err)
	}
	stores(t, m, 0, 2)
	loads(t, m, 0, 2)
}

// R1: a comparison that panics tells that words are not equal.
func TestNotComparable(t *testing.T) {
	type box struct {
		N int
		V any
	}
	list, table, call := []int{1}, map[int]int{}, func() {}
	m := New[any](2)
	for _, x := range []any{list, table, call, [1]any{list}, box{1, list}, struct{ F any }{call}} {
		if err := m.Store(0, x); err != api.OK {
			t.Fatalf("Store: %d", err)
		}
		swaps(t, m, 0, any(7), any(8), false)
		swaps(t, m, 0, nil, any(8), false)
		steps, changes := m.Steps(), m.Changes()
		if ok, err := m.CAS(0, x, 8); ok || err != api.OK {
			t.Errorf("CAS of %T: %t, %d", x, ok, err)
		}
		if ok, err := m.CAS(2, x, x); ok || err != api.ErrArg {
			t.Errorf("CAS of no word: %t, %d", ok, err)
		}
		counts(t, m, steps+1, changes)
		stores(t, m, 0, any(7))
		if ok, err := m.CAS(0, x, 8); ok || err != api.OK {
			t.Errorf("CAS from %T: %t, %d", x, ok, err)
		}
		if ok, err := m.CAS(0, 7, x); !ok || err != api.OK {
			t.Errorf("CAS to %T: %t, %d", x, ok, err)
		}
		stores(t, m, 0, nil)
		loads(t, m, 1, nil)
	}
	boxes := New[box](1)
	stored := boxes.Store(0, box{1, list})
	ok, err := boxes.CAS(0, box{1, list}, box{})
	if stored != api.OK || ok || err != api.OK {
		t.Errorf("CAS of a struct with a slice: %t, %d", ok, err)
	}
	counts(t, boxes, 2, 0)
}

// P8.1: of several that loaded one word, the first that swaps it succeeds.
func TestSeveralSwap(t *testing.T) {
	for first := range 8 {
		m := New[*int](1)
		stores(t, m, 0, new(int))
		var seen [8]*int
		for i := range seen {
			seen[i], _ = m.Load(0)
		}
		own := [8]*int{}
		for i := range own {
			own[i] = new(int)
		}
		for i := range 8 {
			who := (first + i) % 8
			swaps(t, m, 0, seen[who], own[who], i == 0)
		}
		loads(t, m, 0, own[first])
		counts(t, m, 18, 1)
	}
}

// P8.1: those that failed load again; every round one of them succeeds.
func TestAgainAndAgain(t *testing.T) {
	m := New[int](1)
	left := []int{0, 1, 2, 3, 4, 5, 6, 7}
	for round := 0; len(left) > 0; round++ {
		var seen [8]int
		for _, who := range left {
			seen[who], _ = m.Load(0)
		}
		var failed []int
		for _, who := range left {
			if ok, _ := m.CAS(0, seen[who], seen[who]+1); !ok {
				failed = append(failed, who)
			}
		}
		if len(failed) != len(left)-1 || m.Changes() != round+1 {
			t.Fatalf("round %d: %d of %d failed, %d changes", round, len(failed), len(left), m.Changes())
		}
		left = failed
	}
	loads(t, m, 0, 8)
	counts(t, m, 2*36+1, 8)
}

// P8.1: only the word counts, not what was there in between.
func TestBackAgain(t *testing.T) {
	m := New[string](1)
	stores(t, m, 0, "a")
	seen, _ := m.Load(0)
	swaps(t, m, 0, "a", "b", true)
	swaps(t, m, 0, seen, "c", false)
	swaps(t, m, 0, "b", "a", true)
	swaps(t, m, 0, seen, "c", true)
	loads(t, m, 0, "c")
}

// R6: memories know nothing of each other.
func TestTwoMemories(t *testing.T) {
	a, b := New[int](2), New[int](3)
	swaps(t, a, 0, 0, 1, true)
	counts(t, b, 0, 0)
	stores(t, b, 0, 5)
	swaps(t, b, 0, 1, 6, false)
	counts(t, a, 1, 1)
	loads(t, a, 0, 1)
	loads(t, b, 0, 5)
	swaps(t, b, 2, 0, 7, true)
	lacks(t, a, 2, 0, 7)
	loads(t, a, 1, 0)
	loads(t, b, 1, 0)
	counts(t, a, 3, 1)
	counts(t, b, 5, 1)
	c := New[int](2)
	loads(t, c, 0, 0)
	counts(t, c, 1, 0)
}

// P8.3: a nil Memory and one that was declared, not made by New.
func TestNoMemory(t *testing.T) {
	var none *Memory[string]
	var zero Memory[string]
	for _, m := range []*Memory[string]{none, &zero, new(Memory[string]), {}, New[string](0)} {
		for range 2 {
			for _, i := range []int{-1, 0, 1, 65535, 65536, math.MinInt, math.MaxInt} {
				lacks(t, m, i, "", "a")
				lacks(t, m, i, "a", "")
			}
			counts(t, m, 0, 0)
		}
	}
	var numbers *Memory[int]
	lacks(t, numbers, 0, 0, 1)
	lacks(t, &Memory[*point]{}, 0, nil, &point{})
}

// call is one of a seeded list of calls; its words are numbers that a list of words gives a meaning.
type call struct {
	kind, at, old, x int
}

func someCalls(rnd *rand.Rand, n, words, alphabet int) []call {
	calls := make([]call, n)
	for i := range calls {
		calls[i] = call{rnd.Intn(3), rnd.Intn(words+2) - 1, rnd.Intn(alphabet), rnd.Intn(alphabet)}
	}
	return calls
}

// result is what can be seen of a call: which word was loaded (-1 without one), what was reported, and the counts.
type result struct {
	word           int
	ok             bool
	err            api.Errno
	steps, changes int
}

// run performs calls with the words of a list, of which the first is the zero value.
func run[T comparable](calls []call, size int, words []T) []result {
	m := New[T](size)
	out := make([]result, len(calls))
	for i, c := range calls {
		r := result{word: -1}
		switch c.kind {
		case 0:
			var x T
			x, r.err = m.Load(c.at)
			for j, w := range words {
				if w == x {
					r.word = j
				}
			}
		case 1:
			r.err = m.Store(c.at, words[c.x])
		case 2:
			r.ok, r.err = m.CAS(c.at, words[c.old], words[c.x])
		}
		r.steps, r.changes = m.Steps(), m.Changes()
		out[i] = r
	}
	return out
}

// asModel performs the same calls by the chapter's words.
func asModel(calls []call, size int) []result {
	m := &model[int]{size: size}
	out := make([]result, len(calls))
	for i, c := range calls {
		r := result{word: -1}
		switch c.kind {
		case 0:
			r.word, r.err = m.load(c.at)
		case 1:
			r.err = m.store(c.at, c.x)
		case 2:
			r.ok, r.err = m.cas(c.at, c.old, c.x)
		}
		r.steps, r.changes = m.steps, m.changes
		out[i] = r
	}
	return out
}

// alike checks that the results are those that are wanted.
func alike(t *testing.T, name string, calls []call, got, want []result) {
	t.Helper()
	for i := range want {
		if got[i] != want[i] {
			t.Fatalf("%s: call %d, %v: %v, not %v", name, i, calls[i], got[i], want[i])
		}
	}
}

// P8.1, P8.2, R6: seeded random calls, with words of several types that are equal where the model's are: all behave alike.
func TestBehaveAlike(t *testing.T) {
	rnd := rand.New(rand.NewSource(8))
	pointers := []*point{nil, {1, "a"}, {1, "a"}, {2, "b"}}
	for round := range 400 {
		size := rnd.Intn(4)
		calls := someCalls(rnd, 60, size, 4)
		want := asModel(calls, size)
		alike(t, "numbers", calls, run(calls, size, []int{0, 1, 2, 3}), want)
		alike(t, "other numbers", calls, run(calls, size, []int{0, -7, math.MaxInt, round + 1}), want)
		alike(t, "strings", calls, run(calls, size, []string{"", "b", "a", "ab"}), want)
		alike(t, "structs", calls, run(calls, size, []point{{}, {1, ""}, {0, "a"}, {1, "a"}}), want)
		alike(t, "pointers", calls, run(calls, size, pointers), want)
		alike(t, "interfaces", calls, run(calls, size, []any{nil, 0, "", point{}}), want)
	}
}

// FuzzAnyCalls performs calls that bytes describe, four for each, and compares them with the chapter's words.
func FuzzAnyCalls(f *testing.F) {
	f.Add(1, []byte{2, 1, 0, 7, 2, 1, 0, 8, 0, 1, 0, 0})
	f.Add(0, []byte{0, 1, 0, 0, 1, 1, 1, 1, 2, 1, 0, 1})
	f.Add(-3, []byte{2, 0, 0, 0, 1, 3, 1, 1})
	f.Add(70000, []byte{2, 200, 0, 3, 0, 200, 0, 0})
	f.Fuzz(func(t *testing.T, size int, b []byte) {
		b = b[:min(len(b), 400)]
		var calls []call
		for ; len(b) >= 4; b = b[4:] {
			calls = append(calls, call{int(b[0] % 3), int(b[1]) - 1, int(b[2] % 8), int(b[3] % 8)})
		}
		words := []string{"", "a", "b", "aa", "ab", "\x00", "\xff", "a\x00"}
		alike(t, "strings", calls, run(calls, size, words), asModel(calls, min(max(size, 0), 65536)))
	})
}
