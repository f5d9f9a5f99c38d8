package walk

import (
	"iter"
	"math"
	"math/rand"
	"slices"
	"strconv"
	"strings"
	"testing"

	"sapwood/api"
	"sapwood/node"
	"sapwood/tree"
)

// long is a key of the greatest length.
var long = strings.Repeat("k", api.MaxKey)

// shapes are the trees that most tests walk: their leaves' sizes, with those of a branch in brackets. The last ones are not valid by layer 10, but have entries as well.
var shapes = []string{
	"1", "2", "4", "[2 2]", "[4 4]", "[3 2 4]", "[4 4 4 4 4 4]",
	"[[2 2 2] [2 2 2]]", "[[4 3 2] [2 3 4 2] [2 2 2 2 2 2]]",
	"[[[2 2 2] [2 2 2] [2 2 2]] [[2 2 2] [3 3 3] [4 4 4]]]",
	"[1 1]", "[[1 2] [1 1]]", "[[[1 1] [1 1]] [[1 1] [1 1]]]",
}

// number is a key that is greater for a greater number.
func number(i int) string {
	digits := strconv.Itoa(i)
	return strings.Repeat("0", max(0, 8-len(digits))) + digits
}

// reader makes the nodes of a shape. Its keys are the numbers 10, 20, 30 .., so that others lie between them.
type reader struct {
	t    *testing.T
	text string
	next int
}

// node reads a node, and the space behind it.
func (r *reader) node() *node.Node {
	r.t.Helper()
	first := r.text[0]
	r.text = r.text[1:]
	var n *node.Node
	var err api.Errno
	if first == '[' {
		var kids []*node.Node
		for r.text[0] != ']' {
			kids = append(kids, r.node())
		}
		r.text = r.text[1:]
		n, err = node.Branch(kids)
	} else {
		n, err = node.Leaf(r.entries(int(first - '0')))
	}
	if err != api.OK {
		r.t.Fatalf("a node of a shape: %d", err)
	}
	r.text = strings.TrimLeft(r.text, " ")
	return n
}

func (r *reader) entries(size int) []api.Entry {
	var l []api.Entry
	for range size {
		r.next += 10
		l = append(l, api.Entry{Key: number(r.next), Value: "v" + strconv.Itoa(r.next)})
	}
	return l
}

// grown makes a tree of a shape; the shape 0 is nil.
func grown(t *testing.T, text string) *node.Node {
	t.Helper()
	if text == "0" {
		return nil
	}
	r := &reader{t: t, text: text}
	return r.node()
}

// letters puts entries into nil, whose keys are single letters; the value of a is a!, and so on.
func letters(t *testing.T, keys string) *node.Node {
	t.Helper()
	var n *node.Node
	for _, key := range keys {
		n = put(t, n, string(key), string(key)+"!")
	}
	return n
}

func put(t *testing.T, n *node.Node, key, value string) *node.Node {
	t.Helper()
	n, err := tree.Put(n, api.Entry{Key: key, Value: value})
	if err != api.OK {
		t.Fatalf("Put of %q: %d", key, err)
	}
	return n
}

// entriesOf are the entries of the leaves, from the first one on.
func entriesOf(n *node.Node) []api.Entry {
	out := n.Entries()
	for _, kid := range n.Kids() {
		out = append(out, entriesOf(kid)...)
	}
	return out
}

// nodesOf are the nodes, each before those below it.
func nodesOf(n *node.Node) []*node.Node {
	if n == nil {
		return nil
	}
	out := []*node.Node{n}
	for _, kid := range n.Kids() {
		out = append(out, nodesOf(kid)...)
	}
	return out
}

// nearKeys are the keys of a list, keys just above and below each, and keys that are beyond all of them or in no tree.
func nearKeys(l []api.Entry) []string {
	out := []string{"", "\x00", "\xff", long, long + "k", strings.Repeat("0", 1000), strings.Repeat("\xff", 1000)}
	for _, e := range l {
		out = append(out, e.Key, e.Key+"\x00", e.Key+"\xff", e.Key[:len(e.Key)-1], strings.Repeat(e.Key, 100))
	}
	return out
}

// fromOf are the entries of a list that From is to yield, and backOf those that BackFrom is to.
func fromOf(l []api.Entry, key string) []api.Entry {
	var out []api.Entry
	for _, e := range l {
		if strings.Compare(e.Key, key) >= 0 {
			out = append(out, e)
		}
	}
	return out
}

func backOf(l []api.Entry, key string) []api.Entry {
	var out []api.Entry
	for _, e := range l {
		if strings.Compare(e.Key, key) <= 0 {
			out = append([]api.Entry{e}, out...)
		}
	}
	return out
}

// countOf is what Count is to return.
func countOf(l []api.Entry, from, to string) int {
	count := 0
	for _, e := range l {
		if strings.Compare(e.Key, from) >= 0 && strings.Compare(e.Key, to) < 0 {
			count++
		}
	}
	return count
}

// keysOf are the first keys of a list, at most most of them.
func keysOf(l []api.Entry, most int) []string {
	var out []string
	for i, e := range l {
		if i < most {
			out = append(out, e.Key)
		}
	}
	return out
}

// yields collects what an iterator yields, until there are most entries; if most is 0, to the end.
func yields(t *testing.T, seq iter.Seq2[string, string], most int) []api.Entry {
	t.Helper()
	var out []api.Entry
	over := false
	seq(func(key, value string) bool {
		if over {
			t.Fatalf("yield is called again, with %q, after it returned false for %v", key, out)
		}
		out = append(out, api.Entry{Key: key, Value: value})
		over = len(out) == most
		return !over
	})
	return out
}

// walks checks an iterator by the entries that it is to yield: whole, and left after each of them. It is the same one each time (P11.3).
func walks(t *testing.T, name string, seq iter.Seq2[string, string], want []api.Entry) {
	t.Helper()
	for most := range len(want) + 2 {
		l := want
		if most > 0 {
			l = want[:min(most, len(want))]
		}
		if got := yields(t, seq, most); !slices.Equal(got, l) {
			t.Fatalf("%s, left after %d entries: %v, not %v", name, most, got, l)
		}
	}
	if got := yields(t, seq, 0); !slices.Equal(got, want) {
		t.Fatalf("%s, used again: %v, not %v", name, got, want)
	}
}

// asks checks all that can be asked of a tree with these entries for one key, and that the tree stays what it was.
func asks(t *testing.T, n *node.Node, l []api.Entry, key string) {
	t.Helper()
	nodes := nodesOf(n)
	from := fromOf(l, key)
	walks(t, "From "+key, From(n, key), from)
	walks(t, "BackFrom "+key, BackFrom(n, key), backOf(l, key))
	for _, most := range []int{math.MinInt, -1, 0, 1, 2, 3, 5, len(from) - 1, len(from), len(from) + 1, math.MaxInt} {
		if got, want := Take(n, key, most), keysOf(from, most); !slices.Equal(got, want) {
			t.Fatalf("Take from %q of at most %d: %q, not %q", key, most, got, want)
		}
	}
	unchanged(t, n, nodes, l)
}

// unchanged says that a tree has the nodes and entries that it had.
func unchanged(t *testing.T, n *node.Node, nodes []*node.Node, l []api.Entry) {
	t.Helper()
	if !slices.Equal(nodesOf(n), nodes) || !slices.Equal(entriesOf(n), l) {
		t.Fatal("the tree has changed")
	}
}

// P11.1, P11.2: the chapter's example.
func TestExample(t *testing.T) {
	n := letters(t, "abc")
	s := ""
	for key := range From(n, "b") {
		s += key
	}
	for key := range BackFrom(n, "b") {
		s += key
	}
	if s != "bcba" {
		t.Errorf("From b, and BackFrom b: %s", s)
	}
	if count := Count(n, "a", "c"); count != 2 {
		t.Errorf("Count from a to c: %d", count)
	}
}

// P11.1: keys and values, written out, in a tree of several leaves.
func TestWrittenOut(t *testing.T) {
	n := letters(t, "gcaiek")
	for _, c := range []struct {
		name string
		seq  iter.Seq2[string, string]
		want string
	}{
		{"All", All(n), "aa! cc! ee! gg! ii! kk!"},
		{"Back", Back(n), "kk! ii! gg! ee! cc! aa!"},
		// Keys that are there, the least and the greatest among them.
		{"From a", From(n, "a"), "aa! cc! ee! gg! ii! kk!"},
		{"From g", From(n, "g"), "gg! ii! kk!"},
		{"From k", From(n, "k"), "kk!"},
		{"BackFrom a", BackFrom(n, "a"), "aa!"},
		{"BackFrom g", BackFrom(n, "g"), "gg! ee! cc! aa!"},
		{"BackFrom k", BackFrom(n, "k"), "kk! ii! gg! ee! cc! aa!"},
		// Keys between two entries.
		{"From b", From(n, "b"), "cc! ee! gg! ii! kk!"},
		{"From f", From(n, "f"), "gg! ii! kk!"},
		{"BackFrom b", BackFrom(n, "b"), "aa!"},
		{"BackFrom f", BackFrom(n, "f"), "ee! cc! aa!"},
		// Keys below the least and above the greatest one, among them such as can be in no tree.
		{"From A", From(n, "A"), "aa! cc! ee! gg! ii! kk!"},
		{"From z", From(n, "z"), ""},
		{"From the empty key", From(n, ""), "aa! cc! ee! gg! ii! kk!"},
		{"From a long key", From(n, "k"+long), ""},
		{"BackFrom A", BackFrom(n, "A"), ""},
		{"BackFrom z", BackFrom(n, "z"), "kk! ii! gg! ee! cc! aa!"},
		{"BackFrom the empty key", BackFrom(n, ""), ""},
		{"BackFrom a long key", BackFrom(n, "k"+long), "kk! ii! gg! ee! cc! aa!"},
	} {
		var got []string
		for key, value := range c.seq {
			got = append(got, key+value)
		}
		if strings.Join(got, " ") != c.want {
			t.Errorf("%s: %q, not %s", c.name, got, c.want)
		}
	}
}

// P11.1: From and BackFrom with keys beside the borders of leaves and of branches, written out by the numbers on either side.
func TestBorders(t *testing.T) {
	n := grown(t, "[[2 3 2] [2 2 2] [4 2 2]]")
	for _, c := range []struct {
		key           int
		behind, ahead int
	}{
		// Between two entries of a leaf, two leaves, two branches; and each end of these.
		{15, 20, 10}, {25, 30, 20}, {45, 50, 40}, {55, 60, 50}, {75, 80, 70}, {135, 140, 130}, {175, 180, 170},
		{20, 20, 20}, {30, 30, 30}, {70, 70, 70}, {80, 80, 80}, {130, 130, 130}, {140, 140, 140},
		// Below the least one and above the greatest one; 0 is that there is none.
		{5, 10, 0}, {10, 10, 10}, {210, 210, 210}, {215, 0, 210},
	} {
		for name, x := range map[string]struct {
			seq  iter.Seq2[string, string]
			want int
		}{"From": {From(n, number(c.key)), c.behind}, "BackFrom": {BackFrom(n, number(c.key)), c.ahead}} {
			first := ""
			for key := range x.seq {
				first = key
				break
			}
			if x.want == 0 && first != "" || x.want > 0 && first != number(x.want) {
				t.Errorf("%s %d: the first key is %q, not %d", name, c.key, first, x.want)
			}
		}
		asks(t, n, entriesOf(n), number(c.key))
	}
}

// P11.1 to P11.3: all walks through trees of some shapes, whole and left midway, for keys at and beside all entries; the trees stay what they were.
func TestShapes(t *testing.T) {
	for _, text := range shapes {
		n := grown(t, text)
		nodes, l := nodesOf(n), entriesOf(n)
		back := slices.Clone(l)
		slices.Reverse(back)
		walks(t, "All of "+text, All(n), l)
		walks(t, "Back of "+text, Back(n), back)
		unchanged(t, n, nodes, l)
		for _, key := range nearKeys(l) {
			asks(t, n, l, key)
		}
	}
}

// P11.3: a nil tree yields nothing, and a zero Node has no entries either.
func TestNothing(t *testing.T) {
	for _, n := range []*node.Node{nil, new(node.Node)} {
		walks(t, "All", All(n), nil)
		walks(t, "Back", Back(n), nil)
		for _, key := range nearKeys([]api.Entry{{Key: "a"}}) {
			asks(t, n, nil, key)
			for _, to := range []string{"", "a", "b", long + "k"} {
				if count := Count(n, key, to); count != 0 {
					t.Errorf("Count from %q to %q: %d", key, to, count)
				}
			}
		}
	}
}

// P11.2: Count, written out.
func TestCount(t *testing.T) {
	n := grown(t, "[[2 3 2] [2 2 2] [4 2 2]]")
	for _, c := range []struct {
		from, to string
		want     int
	}{
		// Both ends are there: within a leaf, over leaves, over branches, of all but the greatest.
		{number(10), number(20), 1}, {number(30), number(50), 2}, {number(20), number(30), 1}, {number(20), number(60), 4},
		{number(70), number(80), 1}, {number(60), number(140), 8}, {number(10), number(210), 20},
		// One of them is there, or none.
		{number(15), number(40), 2}, {number(10), number(25), 2}, {number(15), number(25), 1}, {number(15), number(16), 0}, {number(25), number(26), 0}, {number(75), number(76), 0}, {number(65), number(135), 7},
		// Like ends, there or not.
		{number(10), number(10), 0}, {number(50), number(50), 0}, {number(210), number(210), 0}, {number(55), number(55), 0}, {"", "", 0}, {"z", "z", 0},
		// In the wrong order.
		{number(20), number(10), 0}, {number(210), number(10), 0}, {number(30), number(20), 0}, {number(45), number(35), 0}, {"z", "", 0}, {number(20), "", 0}, {"z", number(20), 0},
		// Beyond either end.
		{"", number(10), 0}, {"", number(11), 1}, {"", "z", 21}, {"", long + "k", 21}, {number(5), number(30), 2}, {number(200), "z", 2}, {number(210), "z", 1}, {number(210) + "\x00", "z", 0},
		{"", number(5), 0}, {"y", "z", 0}, {number(10) + long, number(20) + long, 1}, {strings.Repeat("0", 1000), strings.Repeat("z", 1000), 21},
	} {
		if got := Count(n, c.from, c.to); got != c.want {
			t.Errorf("Count from %q to %q: %d, not %d", c.from, c.to, got, c.want)
		}
	}
}

// P11.2: Count in trees of some shapes, for all pairs of keys at and beside their entries.
func TestCountOfPairs(t *testing.T) {
	for _, text := range shapes {
		n := grown(t, text)
		nodes, l := nodesOf(n), entriesOf(n)
		keys := nearKeys(l)
		for _, from := range keys {
			for _, to := range keys {
				if got, want := Count(n, from, to), countOf(l, from, to); got != want {
					t.Fatalf("Count in %s from %q to %q: %d, not %d", text, from, to, got, want)
				}
			}
		}
		unchanged(t, n, nodes, l)
	}
}

// P11.2: Take, written out.
func TestTake(t *testing.T) {
	n := letters(t, "abcdefgh")
	for _, c := range []struct {
		from string
		most int
		want string
	}{
		{"", math.MinInt, ""}, {"", -1, ""}, {"", 0, ""}, {"", 1, "a"}, {"", 3, "abc"}, {"", 7, "abcdefg"}, {"", 8, "abcdefgh"}, {"", 9, "abcdefgh"}, {"", math.MaxInt, "abcdefgh"},
		{"c", -1, ""}, {"c", 0, ""}, {"c", 1, "c"}, {"c", 3, "cde"}, {"c", 6, "cdefgh"}, {"c", 7, "cdefgh"}, {"c", math.MaxInt, "cdefgh"},
		{"cc", 1, "d"}, {"h", 2, "h"}, {"hh", 2, ""}, {"z", 2, ""}, {"A", 2, "ab"}, {"h" + long, 1, ""}, {"b" + long, 1, "c"},
	} {
		if got := strings.Join(Take(n, c.from, c.most), ""); got != c.want {
			t.Errorf("Take from %q of at most %d: %q, not %q", c.from, c.most, got, c.want)
		}
	}
}

// P11.1: keys are compared by bytes, and a key comes behind all with which it begins.
func TestBytewise(t *testing.T) {
	keys := []string{"\x00", "\x00\x00", "A", "B", "a", "a\x00", "aa", "b", "é", "\x7f", "\x80", "\xff", "\xff\xff", "10", "9", long, long[1:]}
	var n *node.Node
	for i, key := range keys {
		n = put(t, n, key, strconv.Itoa(i))
	}
	slices.Sort(keys)
	l := entriesOf(n)
	if got := Take(n, "", len(keys)+1); !slices.Equal(got, keys) {
		t.Errorf("Take: %q, not %q", got, keys)
	}
	back := slices.Clone(l)
	slices.Reverse(back)
	walks(t, "All", All(n), l)
	walks(t, "Back", Back(n), back)
	for _, key := range nearKeys(l) {
		asks(t, n, l, key)
		for _, to := range nearKeys(l) {
			if got, want := Count(n, key, to), countOf(l, key, to); got != want {
				t.Errorf("Count from %q to %q: %d, not %d", key, to, got, want)
			}
		}
	}
}

// P11.1: values of each kind of length come out as they are.
func TestValues(t *testing.T) {
	var n *node.Node
	var l []api.Entry
	for i, size := range []int{0, 1, api.Inline, api.Inline + 1, api.Piece + 1, api.MaxValue} {
		e := api.Entry{Key: number(i), Value: strings.Repeat("\x00é"[i%2:], size)[:size]}
		n = put(t, n, e.Key, e.Value)
		l = append(l, e)
	}
	walks(t, "All", All(n), l)
	walks(t, "BackFrom", BackFrom(n, number(9)), backOf(l, number(9)))
}

// iterators are the four of a tree, in the middle of which stands a key.
func iterators(n *node.Node, key string) []iter.Seq2[string, string] {
	return []iter.Seq2[string, string]{All(n), From(n, key), Back(n), BackFrom(n, key)}
}

// P11.3: an iterator within another one over the same tree, and within itself, left midway or not.
func TestNested(t *testing.T) {
	n := grown(t, "[[2 2 2] [3 2 4]]")
	nodes, l := nodesOf(n), entriesOf(n)
	all := iterators(n, number(70))
	var wants [][]api.Entry
	for _, seq := range all {
		wants = append(wants, yields(t, seq, 0))
	}
	for i, outer := range all {
		for k, inner := range all {
			var got []api.Entry
			for key, value := range outer {
				got = append(got, api.Entry{Key: key, Value: value})
				most := len(got) % (len(wants[k]) + 1)
				if part := yields(t, inner, most); most > 0 && !slices.Equal(part, wants[k][:most]) || most == 0 && !slices.Equal(part, wants[k]) {
					t.Fatalf("%d within %d, left after %d: %v", k, i, most, part)
				}
			}
			if !slices.Equal(got, wants[i]) {
				t.Fatalf("%d with %d within: %v", i, k, got)
			}
		}
	}
	unchanged(t, n, nodes, l)
}

// P11.3: two uses of one iterator that take turns.
func TestTurns(t *testing.T) {
	n := grown(t, "[[2 2 2] [3 2 4]]")
	for i, seq := range iterators(n, number(70)) {
		want := yields(t, seq, 0)
		slow, stop := iter.Pull2(seq)
		for _, e := range want {
			if key, value, ok := slow(); key != e.Key || value != e.Value || !ok {
				t.Errorf("%d: %q, %q, %t, not %v", i, key, value, ok, e)
			}
			if got := yields(t, seq, 0); !slices.Equal(got, want) {
				t.Errorf("%d: %v while another use is midway", i, got)
			}
		}
		if key, value, ok := slow(); ok {
			t.Errorf("%d: %q, %q behind the last one", i, key, value)
		}
		stop()
	}
}

// P11.3: an iterator whose loop is left by a panic, which comes out of it, can be used again.
func TestPanic(t *testing.T) {
	n := grown(t, "[[2 2 2] [3 2 4]]")
	for i, seq := range iterators(n, number(70)) {
		want := yields(t, seq, 0)
		func() {
			defer func() {
				if caught := recover(); caught != "mine" {
					t.Errorf("%d: the panic is %v", i, caught)
				}
			}()
			for range seq {
				panic("mine")
			}
		}()
		if got := yields(t, seq, 0); !slices.Equal(got, want) {
			t.Errorf("%d, used again: %v", i, got)
		}
	}
}

// P11.3, R6: updates that are derived from a tree while it is walked have no effect on the walk.
func TestUpdatesMeanwhile(t *testing.T) {
	n := grown(t, "[[2 2 2] [3 2 4]]")
	for i, seq := range iterators(n, number(70)) {
		want := yields(t, seq, 0)
		var got []api.Entry
		m := n
		for key, value := range seq {
			got = append(got, api.Entry{Key: key, Value: value})
			m = put(t, m, key+"0", "new")
			m, _ = tree.Del(m, key)
		}
		if !slices.Equal(got, want) || !slices.Equal(yields(t, seq, 0), want) {
			t.Errorf("%d: %v, not %v", i, got, want)
		}
	}
}

// R3: lists that Take returned and that the caller changes, or appends to.
func TestListsThatCameOut(t *testing.T) {
	for _, text := range shapes {
		n := grown(t, text)
		nodes, l := nodesOf(n), entriesOf(n)
		for _, most := range []int{1, len(l) - 1, len(l), len(l) + 1} {
			want := keysOf(l, most)
			first, second := Take(n, "", most), Take(n, "", most)
			for i := range first {
				first[i] = "x"
			}
			_ = append(first, "y")
			_ = append(first[:0], "z")
			if !slices.Equal(second, want) || !slices.Equal(Take(n, "", most), want) {
				t.Errorf("%s: lists of %d keys share memory", text, most)
			}
			unchanged(t, n, nodes, l)
		}
	}
}

// P11.1 to P11.3: trees that sequences of Put and Del built, compared with the sorted list of their entries.
func TestSequences(t *testing.T) {
	for seed := range 40 {
		source := rand.New(rand.NewSource(int64(seed)))
		keys := 1 << (1 + seed%8)
		values := map[string]string{}
		var n *node.Node
		for step := range 200 {
			key := number(source.Intn(keys))
			// The tree grows at first, and then shrinks.
			if (source.Intn(10) < 7) == (step < 120) {
				values[key] = strconv.Itoa(step)
				n = put(t, n, key, values[key])
			} else {
				delete(values, key)
				n, _ = tree.Del(n, key)
			}
			if step%4 == 0 {
				compare(t, n, sorted(values), source, keys)
			}
		}
	}
}

// sorted is the list of the entries of a map.
func sorted(values map[string]string) []api.Entry {
	var l []api.Entry
	for key, value := range values {
		l = append(l, api.Entry{Key: key, Value: value})
	}
	slices.SortFunc(l, func(x, y api.Entry) int { return strings.Compare(x.Key, y.Key) })
	return l
}

// compare checks all functions for a tree with these entries, with keys below a number.
func compare(t *testing.T, n *node.Node, l []api.Entry, source *rand.Rand, keys int) {
	t.Helper()
	if got := yields(t, All(n), 0); !slices.Equal(got, l) {
		t.Fatalf("All: %v, not %v", got, l)
	}
	if got := yields(t, Back(n), 0); !slices.Equal(got, backOf(l, "\xff")) {
		t.Fatalf("Back: %v, not those of %v", got, l)
	}
	from, to := number(source.Intn(keys)), number(source.Intn(keys))+"5"
	walks(t, "From", From(n, from), fromOf(l, from))
	walks(t, "BackFrom", BackFrom(n, to), backOf(l, to))
	for _, ends := range [][2]string{{from, to}, {to, from}} {
		if got, want := Count(n, ends[0], ends[1]), countOf(l, ends[0], ends[1]); got != want {
			t.Fatalf("Count from %q to %q: %d, not %d", ends[0], ends[1], got, want)
		}
	}
	most := source.Intn(len(l)+2) - 1
	if got, want := Take(n, from, most), keysOf(fromOf(l, from), most); !slices.Equal(got, want) {
		t.Fatalf("Take from %q of at most %d: %q, not %q", from, most, got, want)
	}
}

// P11.1, P11.2: a tree of many levels, whole, and from each key on. The test takes very long if a walk from a key on starts at an end of the tree.
func TestLarge(t *testing.T) {
	const size = 20000
	var n *node.Node
	for _, i := range rand.New(rand.NewSource(1)).Perm(size) {
		n = put(t, n, number(10*i), strconv.Itoa(i))
	}
	i := 0
	for key, value := range All(n) {
		if key != number(10*i) || value != strconv.Itoa(i) {
			t.Fatalf("the entry %d is %q, %q", i, key, value)
		}
		i++
	}
	for key := range Back(n) {
		i--
		if key != number(10*i) {
			t.Fatalf("back at the entry %d: %q", i, key)
		}
	}
	if i != 0 || n.Height() < 6 {
		t.Fatalf("%d entries are left; the height is %d", i, n.Height())
	}
	for i := range size - 3 {
		if got := Take(n, number(10*i+5), 2); !slices.Equal(got, []string{number(10*i + 10), number(10*i + 20)}) {
			t.Fatalf("Take behind the entry %d: %q", i, got)
		}
		if got := yields(t, BackFrom(n, number(10*i+5)), 1); got[0].Key != number(10*i) {
			t.Fatalf("BackFrom behind the entry %d: %v", i, got)
		}
		if got := Count(n, number(10*i+5), number(10*i+30)); got != 2 {
			t.Fatalf("Count behind the entry %d: %d", i, got)
		}
	}
	if got := Count(n, "", "z"); got != size {
		t.Errorf("Count of all: %d", got)
	}
}

// FuzzWalks takes its bytes as keys of a tree, and two more strings as ends, and compares all functions with the sorted list.
func FuzzWalks(f *testing.F) {
	f.Add([]byte("abc"), "a", "c", 2)
	f.Add([]byte("zyxwvutsrqponmlkjihgfedcba"), "bb", "y\x00", 30)
	f.Add([]byte("\x00\xff\x80aa"), "", "\xff", -1)
	f.Fuzz(func(t *testing.T, b []byte, from, to string, most int) {
		values := map[string]string{}
		var n *node.Node
		for i, x := range b[:min(len(b), 200)] {
			// One byte or two, so that a key may begin with another one.
			key := strings.Repeat(string(b[i:i+1]), 1+int(x)%2)
			values[key] = strconv.Itoa(i)
			n = put(t, n, key, values[key])
		}
		l := sorted(values)
		walks(t, "All", All(n), l)
		walks(t, "From", From(n, from), fromOf(l, from))
		walks(t, "Back", Back(n), backOf(l, strings.Repeat("\xff", 3)))
		walks(t, "BackFrom", BackFrom(n, to), backOf(l, to))
		if got, want := Count(n, from, to), countOf(l, from, to); got != want {
			t.Errorf("Count from %q to %q: %d, not %d", from, to, got, want)
		}
		if got, want := Take(n, from, most), keysOf(fromOf(l, from), most); !slices.Equal(got, want) {
			t.Errorf("Take from %q of at most %d: %q, not %q", from, most, got, want)
		}
	})
}
