package pair

import (
	"math/rand"
	"slices"
	"strconv"
	"strings"
	"testing"

	"sapwood/api"
)

// list makes entries of keys, each with a value that tells its place.
func list(keys ...string) []api.Entry {
	out := []api.Entry{}
	for i, key := range keys {
		out = append(out, api.Entry{Key: key, Value: "v" + strconv.Itoa(i)})
	}
	return out
}

// probes are keys in bytewise order, with every kind of neighbour: prefixes of each other, the least and the greatest byte, bytes beyond ASCII, and keys of the most bytes and of more.
func probes() []string {
	return []string{
		"", "\x00", "\x00\x00", "\x01", "A", "a", "a\x00", "aa", "b",
		strings.Repeat("k", api.MaxKey-1), strings.Repeat("k", api.MaxKey), strings.Repeat("k", api.MaxKey+1),
		"z", "\x7f", "\x80", "é", "\xff", "\xff\x00", "\xff\xff",
	}
}

// sublists calls check with the sorted list of every subset of some keys, which have smaller and greater probes on both sides.
func sublists(check func([]api.Entry)) {
	keys := []string{"\x00", "a", "a\x00", "aa", strings.Repeat("k", api.MaxKey), "\x80", "\xff"}
	for set := range 1 << len(keys) {
		chosen := []string{}
		for i, key := range keys {
			if set>>i&1 == 1 {
				chosen = append(chosen, key)
			}
		}
		check(list(chosen...))
	}
}

// unsorted are lists that are not sorted, each in its own way.
func unsorted() [][]api.Entry {
	return [][]api.Entry{
		list("a", "a"), list("b", "a"), list("", ""), list("a", ""), list("aa", "a"), list("\x80", "\x7f"), list("\xff", "a"),
		list("a", "b", "b"), list("a", "a", "b"), list("a", "c", "b"), list("c", "a", "b"), list("c", "b", "a"),
		list("a", "b", "c", "d", "c"), list("a", "b", "b", "c", "d"), list("d", "a", "b", "c", "e"),
		list("b", "b", "b", "b", "b", "b", "b"), list("g", "f", "e", "d", "c", "b", "a"),
	}
}

// locate is the chapter's definition of Find, by counting.
func locate(l []api.Entry, key string) (int, bool) {
	smaller, found := 0, false
	for _, e := range l {
		if e.Key < key {
			smaller++
		}
		found = found || e.Key == key
	}
	return smaller, found
}

// contents are the entries of a list as a map, by which lists are compared without regard to their order.
func contents(l []api.Entry) map[string]string {
	out := map[string]string{}
	for _, e := range l {
		out[e.Key] = e.Value
	}
	return out
}

// sorted makes the one sorted list of these entries.
func sorted(entries map[string]string) []api.Entry {
	out := []api.Entry{}
	for key, value := range entries {
		out = append(out, api.Entry{Key: key, Value: value})
	}
	slices.SortFunc(out, func(a, b api.Entry) int { return strings.Compare(a.Key, b.Key) })
	return out
}

// P3.1
func TestKey(t *testing.T) {
	for _, c := range []struct {
		key  string
		want api.Errno
	}{
		{"", api.ErrArg},
		{"a", api.OK}, {"\x00", api.OK}, {"\xff", api.OK}, {" ", api.OK}, {"a key", api.OK},
		{strings.Repeat("k", api.MaxKey-1), api.OK},
		{strings.Repeat("k", api.MaxKey), api.OK},
		{strings.Repeat("k", api.MaxKey+1), api.ErrLong},
		{strings.Repeat("\x00", api.MaxKey), api.OK},
		{strings.Repeat("\x00", api.MaxKey+1), api.ErrLong},
		// 24 bytes and 12 letters, 26 bytes and 13 letters: bytes count, not letters.
		{strings.Repeat("é", api.MaxKey/2), api.OK},
		{strings.Repeat("é", api.MaxKey/2+1), api.ErrLong},
		{strings.Repeat("k", api.MaxValue), api.ErrLong},
		{strings.Repeat("k", 1<<20), api.ErrLong},
	} {
		if got := Key(c.key); got != c.want {
			t.Errorf("Key of %d bytes (%.30q): %d, want %d", len(c.key), c.key, got, c.want)
		}
	}
}

// P3.1
func TestValue(t *testing.T) {
	for _, c := range []struct {
		value string
		want  api.Errno
	}{
		{"", api.OK}, {"v", api.OK}, {"\x00", api.OK}, {"\xff\xfe", api.OK},
		{strings.Repeat("\x00", api.MaxValue), api.OK},
		{strings.Repeat("\x00", api.MaxValue+1), api.ErrLong},
		{strings.Repeat("é", api.MaxValue/2), api.OK},
		{strings.Repeat("é", api.MaxValue/2+1), api.ErrLong},
		{strings.Repeat("v", 1<<20), api.ErrLong},
	} {
		if got := Value(c.value); got != c.want {
			t.Errorf("Value of %d bytes (%.30q): %d, want %d", len(c.value), c.value, got, c.want)
		}
	}
}

// P3.1
func TestEveryLength(t *testing.T) {
	for size := 1; size <= 1200; size++ {
		text := strings.Repeat("x", size)
		if got := Key(text); (got == api.OK) != (size <= 24) {
			t.Errorf("Key of %d bytes: %d", size, got)
		}
		if got := Value(text); (got == api.OK) != (size <= 400) {
			t.Errorf("Value of %d bytes: %d", size, got)
		}
	}
}

// P3.1, R4
func TestRise(t *testing.T) {
	if !Rise(nil) || !Rise([]api.Entry{}) {
		t.Error("the empty list is sorted")
	}
	for _, key := range probes() {
		if !Rise(list(key)) {
			t.Errorf("the list of %q alone is sorted", key)
		}
	}
	if !Rise([]api.Entry{{Key: "a", Value: "2"}, {Key: "b", Value: "1"}, {Key: "c", Value: "1"}}) {
		t.Error("values do not matter")
	}
	if Rise([]api.Entry{{Key: "a", Value: "1"}, {Key: "a", Value: "2"}}) {
		t.Error("the same key twice is not sorted, even with different values")
	}
	sublists(func(l []api.Entry) {
		if !Rise(l) {
			t.Errorf("Rise of the sorted list %q", l)
		}
	})
	for _, l := range unsorted() {
		if Rise(l) {
			t.Errorf("Rise of the unsorted list %q", l)
		}
	}
}

// P3.1
func TestRiseOfTwo(t *testing.T) {
	for i, first := range probes() {
		for j, second := range probes() {
			if got := Rise(list(first, second)); got != (i < j) {
				t.Errorf("Rise of %q, %q: %t", first, second, got)
			}
		}
	}
}

// P3.1
func TestRiseSeesEveryPlace(t *testing.T) {
	keys := []string{}
	for i := range 20 {
		keys = append(keys, string(rune('a'+i)))
	}
	for i := 1; i < len(keys); i++ {
		same := slices.Clone(keys)
		same[i] = same[i-1]
		swapped := slices.Clone(keys)
		swapped[i], swapped[i-1] = swapped[i-1], swapped[i]
		if Rise(list(same...)) || Rise(list(swapped...)) {
			t.Errorf("the fault at %d is not seen", i)
		}
	}
}

// P3.2
func TestFindExample(t *testing.T) {
	if i, ok := Find(list("a", "c"), "b"); i != 1 || ok {
		t.Errorf("Find of b in a, c: %d, %t", i, ok)
	}
}

// P3.2: before the first, equal to one, between two and after the last.
func TestFindPlaces(t *testing.T) {
	l := list("b", "d", "f")
	for _, c := range []struct {
		key   string
		at    int
		found bool
	}{
		{"", 0, false}, {"a", 0, false}, {"b", 0, true}, {"b\x00", 1, false}, {"c", 1, false}, {"d", 1, true},
		{"e", 2, false}, {"f", 2, true}, {"f\x00", 3, false}, {"g", 3, false}, {"\xff", 3, false},
	} {
		if at, found := Find(l, c.key); at != c.at || found != c.found {
			t.Errorf("Find of %q: %d, %t", c.key, at, found)
		}
	}
}

// P3.2
func TestFindInEverySublist(t *testing.T) {
	sublists(func(l []api.Entry) {
		for _, key := range probes() {
			at, found := Find(l, key)
			if wantAt, wantFound := locate(l, key); at != wantAt || found != wantFound {
				t.Errorf("Find of %q in %q: %d, %t", key, l, at, found)
			}
		}
	})
}

// P3.2
func TestFindInListsOfEveryLength(t *testing.T) {
	for size := range 70 {
		l := []api.Entry{}
		for i := range size {
			l = append(l, api.Entry{Key: string([]byte{byte(2*i + 1)})})
		}
		for x := range 256 {
			key := string([]byte{byte(x)})
			at, found := Find(l, key)
			if wantAt, wantFound := locate(l, key); at != wantAt || found != wantFound {
				t.Fatalf("Find of %d among %d: %d, %t", x, size, at, found)
			}
		}
	}
}

// Ways: going through the list from its start would compare some 2^39 keys here, which no test waits for.
func TestFindHalves(t *testing.T) {
	l := make([]api.Entry, 1<<20)
	for i := range l {
		l[i].Key = string([]byte{byte(i >> 16), byte(i >> 8), byte(i)})
	}
	for i, e := range l {
		if at, found := Find(l, e.Key); at != i || !found {
			t.Fatalf("Find of entry %d: %d, %t", i, at, found)
		}
	}
}

// P3.2, P3.3
func TestWithInEverySublist(t *testing.T) {
	sublists(func(l []api.Entry) {
		for _, key := range probes() {
			e := api.Entry{Key: key, Value: "new"}
			entries := contents(l)
			entries[key] = "new"
			got := With(l, e)
			if !slices.Equal(got, sorted(entries)) {
				t.Errorf("With of %q in %q: %q", key, l, got)
			}
			if !Rise(got) {
				t.Errorf("With of %q in %q is not sorted", key, l)
			}
			if at, found := Find(got, key); !found || got[at] != e {
				t.Errorf("%q was added to %q and is not found", key, l)
			}
		}
	})
}

// P3.2
func TestWithReplaces(t *testing.T) {
	l := list("a", "b", "c")
	for i, key := range []string{"a", "b", "c"} {
		want := slices.Clone(l)
		want[i].Value = ""
		if got := With(l, api.Entry{Key: key}); !slices.Equal(got, want) {
			t.Errorf("With of %q with an empty value: %q", key, got)
		}
		if got := With(l, l[i]); !slices.Equal(got, l) {
			t.Errorf("With of an entry that is there: %q", got)
		}
	}
}

// P3.2, P3.3
func TestWithoutInEverySublist(t *testing.T) {
	sublists(func(l []api.Entry) {
		for _, key := range probes() {
			entries := contents(l)
			_, want := entries[key]
			delete(entries, key)
			got, ok := Without(l, key)
			if ok != want || !slices.Equal(got, sorted(entries)) {
				t.Errorf("Without of %q in %q: %q, %t", key, l, got, ok)
			}
			if _, found := Find(got, key); found {
				t.Errorf("%q was removed from %q and is found", key, l)
			}
		}
	})
}

// P3.3: with a longer life of one list than the sublists have, every other entry stays as it was.
func TestManyChanges(t *testing.T) {
	rnd := rand.New(rand.NewSource(3))
	var l []api.Entry
	model := map[string]string{}
	for round := range 4000 {
		key := strconv.Itoa(rnd.Intn(90))
		if rnd.Intn(2) == 0 {
			model[key] = strconv.Itoa(round)
			l = With(l, api.Entry{Key: key, Value: model[key]})
		} else {
			_, want := model[key]
			delete(model, key)
			var ok bool
			if l, ok = Without(l, key); ok != want {
				t.Fatalf("round %d: Without of %q: %t", round, key, ok)
			}
		}
		if !slices.Equal(l, sorted(model)) {
			t.Fatalf("round %d: %q", round, l)
		}
	}
}

// R4
func TestEmptyLists(t *testing.T) {
	for _, empty := range [][]api.Entry{nil, {}, make([]api.Entry, 0, 4)} {
		for _, key := range probes() {
			if at, found := Find(empty, key); at != 0 || found {
				t.Errorf("Find: %d, %t", at, found)
			}
			e := api.Entry{Key: key, Value: "v"}
			if got := With(empty, e); !slices.Equal(got, []api.Entry{e}) {
				t.Errorf("With: %q", got)
			}
			if got, ok := Without(empty, key); len(got) != 0 || ok {
				t.Errorf("Without: %q, %t", got, ok)
			}
		}
	}
}

// P3.2: values and keys that are not valid are no concern of the lists.
func TestListsTakeAnyEntry(t *testing.T) {
	long := api.Entry{Key: strings.Repeat("k", 100), Value: strings.Repeat("v", 1000)}
	l := With(With(nil, long), api.Entry{})
	if !slices.Equal(l, []api.Entry{{}, long}) {
		t.Errorf("With: %q", l)
	}
	if got, ok := Without(l, ""); !ok || !slices.Equal(got, []api.Entry{long}) {
		t.Errorf("Without: %q, %t", got, ok)
	}
}

// R1, P3.2: the calls return for lists that are not sorted, and find nothing outside of them.
func TestUnsortedLists(t *testing.T) {
	lists := unsorted()
	rnd := rand.New(rand.NewSource(4))
	for size := range 40 {
		l := []api.Entry{}
		for range size {
			l = append(l, api.Entry{Key: strconv.Itoa(rnd.Intn(9)), Value: "v"})
		}
		lists = append(lists, l)
	}
	keys := append(probes(), "c", "d", "e", "f", "g", "0", "4", "5", "8", "9")
	for _, l := range lists {
		before := slices.Clone(l)
		for _, key := range keys {
			Rise(l)
			Find(l, key)
			With(l, api.Entry{Key: key})
			Without(l, key)
		}
		if !slices.Equal(l, before) {
			t.Errorf("%q was changed to %q", before, l)
		}
	}
}

// R3: neither the list nor the room behind it is changed, also where a change at any place would fit into that room.
func TestListsAreNotChanged(t *testing.T) {
	sublists(func(l []api.Entry) {
		room := append(slices.Clone(l), list("x", "y", "z")...)
		whole := slices.Clone(room)
		given := room[:len(l)]
		for _, key := range probes() {
			Rise(given)
			Find(given, key)
			With(given, api.Entry{Key: key, Value: "new"})
			Without(given, key)
			if !slices.Equal(room, whole) {
				t.Fatalf("%q in %q: changed to %q", key, whole, room)
			}
		}
	})
}

// R3: what stands behind the list is not read.
func TestRoomIsNotRead(t *testing.T) {
	room := list("a", "c", "e", "b")
	given := room[:2]
	if !Rise(room[:3]) {
		t.Error("Rise reads behind the list")
	}
	if at, found := Find(given, "e"); at != 2 || found {
		t.Errorf("Find: %d, %t", at, found)
	}
	if got := With(given, api.Entry{Key: "e"}); len(got) != 3 || got[2] != (api.Entry{Key: "e"}) {
		t.Errorf("With: %q", got)
	}
	if got, ok := Without(given, "e"); len(got) != 2 || ok {
		t.Errorf("Without: %q, %t", got, ok)
	}
}

// spoil overwrites a list with all its room.
func spoil(l []api.Entry) {
	l = l[:cap(l)]
	for i := range l {
		l[i] = api.Entry{Key: "spoilt", Value: "spoilt"}
	}
}

// R3: a result is new memory, also where it equals the list that was given.
func TestResultsAreNew(t *testing.T) {
	sublists(func(l []api.Entry) {
		for _, key := range probes() {
			e := api.Entry{Key: key, Value: "new"}
			kept := slices.Clone(l)

			with := With(l, e)
			without, _ := Without(l, key)
			spoil(with)
			spoil(without)
			if !slices.Equal(l, kept) {
				t.Fatalf("a result for %q shares memory with the list %q", key, kept)
			}

			with = With(l, e)
			without, _ = Without(l, key)
			again := With(l, e)
			against, _ := Without(l, key)
			keptWith, keptWithout := slices.Clone(with), slices.Clone(without)
			given := l
			l = slices.Clone(kept)
			spoil(given)
			spoil(again)
			spoil(against)
			if !slices.Equal(with, keptWith) || !slices.Equal(without, keptWithout) {
				t.Fatalf("a result for %q in %q shares memory with the list or with another result", key, kept)
			}
		}
	})
}

// R6
func TestSameAnswersAgain(t *testing.T) {
	sublists(func(l []api.Entry) {
		for _, key := range probes() {
			at, found := Find(l, key)
			with := With(l, api.Entry{Key: key})
			without, ok := Without(l, key)
			With(list("q"), api.Entry{Key: "r"})
			atAgain, foundAgain := Find(l, key)
			withAgain := With(l, api.Entry{Key: key})
			withoutAgain, okAgain := Without(l, key)
			if at != atAgain || found != foundAgain || ok != okAgain || !slices.Equal(with, withAgain) || !slices.Equal(without, withoutAgain) {
				t.Errorf("other answers for %q in %q", key, l)
			}
		}
	})
}

// FuzzAnyEntries makes a list of any bytes, cut at zero bytes into keys: the calls return, and for the sorted list of these keys they do what the chapter says.
func FuzzAnyEntries(f *testing.F) {
	f.Add("", "")
	f.Add("a\x00c", "b")
	f.Add("a\x00b\x00b", "b")
	f.Add("\xff\x00a\x00", "")
	f.Fuzz(func(t *testing.T, joined, key string) {
		l := list(strings.Split(joined, "\x00")...)
		e := api.Entry{Key: key, Value: "new"}
		Rise(l)
		Find(l, key)
		With(l, e)
		Without(l, key)

		l = sorted(contents(l))
		if !Rise(l) {
			t.Errorf("Rise of %q", l)
		}
		at, found := Find(l, key)
		if wantAt, wantFound := locate(l, key); at != wantAt || found != wantFound {
			t.Errorf("Find of %q in %q: %d, %t", key, l, at, found)
		}
		entries := contents(l)
		delete(entries, key)
		if got, ok := Without(l, key); ok != found || !slices.Equal(got, sorted(entries)) {
			t.Errorf("Without of %q in %q: %q, %t", key, l, got, ok)
		}
		entries[key] = "new"
		if got := With(l, e); !slices.Equal(got, sorted(entries)) {
			t.Errorf("With of %q in %q: %q", key, l, got)
		}
	})
}
