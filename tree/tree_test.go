package tree

import (
	"math/rand"
	"slices"
	"strconv"
	"strings"
	"testing"

	"sapwood/api"
	"sapwood/node"
)

// entriesOf are the entries of the leaves, from the first one on.
func entriesOf(n *node.Node) []api.Entry {
	out := n.Entries()
	for _, kid := range n.Kids() {
		out = append(out, entriesOf(kid)...)
	}
	return out
}

// allOf are the nodes, each before those below it.
func allOf(n *node.Node) []*node.Node {
	if n == nil {
		return nil
	}
	out := []*node.Node{n}
	for _, kid := range n.Kids() {
		out = append(out, allOf(kid)...)
	}
	return out
}

// leavesOf is the number of leaves.
func leavesOf(n *node.Node) int {
	count := 0
	for _, x := range allOf(n) {
		if x.Height() == 1 {
			count++
		}
	}
	return count
}

// strangers is the number of nodes of n that are not nodes of other.
func strangers(n, other *node.Node) int {
	known := map[*node.Node]bool{}
	for _, x := range allOf(other) {
		known[x] = true
	}
	count := 0
	for _, x := range allOf(n) {
		if !known[x] {
			count++
		}
	}
	return count
}

// validOf says whether a tree is valid, by the words of layers 9 and 10.
func validOf(n *node.Node) bool {
	for i, x := range allOf(n) {
		few := x.Height() == 1 && x.Size() < 2 || x.Height() > 1 && x.Size() < 3
		if x.Height() == 0 || i > 0 && few {
			return false
		}
	}
	return true
}

// shape writes the sizes of leaves, those of a branch in brackets.
func shape(n *node.Node) string {
	if n.Height() <= 1 {
		return strconv.Itoa(n.Size())
	}
	var kids []string
	for _, kid := range n.Kids() {
		kids = append(kids, shape(kid))
	}
	return "[" + strings.Join(kids, " ") + "]"
}

// number is a key that is greater for a greater number.
func number(i int) string {
	digits := strconv.Itoa(i)
	return strings.Repeat("0", max(0, 8-len(digits))) + digits
}

// reader makes the nodes of a shape. Its keys are the numbers 10, 20, 30 .., so that others lie between them.
type reader struct {
	t    *testing.T
	text string
	next int
}

func (r *reader) node() *node.Node {
	r.t.Helper()
	r.text = strings.TrimLeft(r.text, " ")
	if r.text[0] != '[' {
		size := int(r.text[0] - '0')
		r.text = r.text[1:]
		return r.leaf(size)
	}
	r.text = r.text[1:]
	var kids []*node.Node
	for strings.TrimLeft(r.text, " ")[0] != ']' {
		kids = append(kids, r.node())
	}
	r.text = strings.TrimLeft(r.text, " ")[1:]
	n, err := node.Branch(kids)
	if err != api.OK {
		r.t.Fatalf("a branch of %d kids: %d", len(kids), err)
	}
	return n
}

func (r *reader) leaf(size int) *node.Node {
	r.t.Helper()
	var l []api.Entry
	for range size {
		r.next += 10
		l = append(l, api.Entry{Key: number(r.next), Value: "v" + strconv.Itoa(r.next)})
	}
	n, err := node.Leaf(l)
	if err != api.OK {
		r.t.Fatalf("a leaf of %d entries: %d", size, err)
	}
	return n
}

// grown makes a tree of a shape, without calling the package.
func grown(t *testing.T, text string) *node.Node {
	t.Helper()
	r := &reader{t: t, text: text}
	n := r.node()
	if r.text != "" || shape(n) != text {
		t.Fatalf("the shape %s was read as %s", text, shape(n))
	}
	return n
}

// listWith is a sorted list with an entry, by going through it.
func listWith(l []api.Entry, e api.Entry) []api.Entry {
	var out []api.Entry
	for _, x := range l {
		if x.Key != e.Key {
			out = append(out, x)
		}
	}
	out = append(out, e)
	slices.SortFunc(out, func(x, y api.Entry) int { return strings.Compare(x.Key, y.Key) })
	return out
}

// listWithout is a list without a key, and whether it was there.
func listWithout(l []api.Entry, key string) ([]api.Entry, bool) {
	var out []api.Entry
	for _, x := range l {
		if x.Key != key {
			out = append(out, x)
		}
	}
	return out, len(out) < len(l)
}

// memo is what a tree showed at some time: its nodes, and their entries and sizes.
type memo struct {
	n     *node.Node
	nodes []*node.Node
	list  []api.Entry
	text  string
}

func remember(n *node.Node) memo {
	return memo{n, allOf(n), entriesOf(n), shape(n)}
}

// check says that nothing has changed since.
func (m memo) check(t *testing.T) {
	t.Helper()
	if !slices.Equal(allOf(m.n), m.nodes) || !slices.Equal(entriesOf(m.n), m.list) || shape(m.n) != m.text {
		t.Fatalf("a tree of the shape %s has changed to %s", m.text, shape(m.n))
	}
}

// shows checks that n, derived from an old tree, has these entries, is valid if the old one is, and shares enough with it (P10.2, P10.3).
func shows(t *testing.T, n *node.Node, old memo, want []api.Entry) {
	t.Helper()
	old.check(t)
	if !slices.Equal(entriesOf(n), want) {
		t.Fatalf("from %s to %s: the entries are %v, not %v", old.text, shape(n), entriesOf(n), want)
	}
	if validOf(old.n) && !validOf(n) {
		t.Fatalf("from %s to %s, which is not valid", old.text, shape(n))
	}
	if fresh := strangers(n, old.n); fresh > 3*old.n.Height()+3 {
		t.Fatalf("from %s to %s: %d new nodes", old.text, shape(n), fresh)
	}
}

// puts does a Put that is to succeed, and checks all that is promised of it.
func puts(t *testing.T, n *node.Node, e api.Entry) *node.Node {
	t.Helper()
	old := remember(n)
	out, err := Put(n, e)
	if err != api.OK {
		t.Fatalf("Put of %q into %s: %d", e.Key, old.text, err)
	}
	shows(t, out, old, listWith(old.list, e))
	if slices.Contains(old.list, e) != (out == n) {
		t.Fatalf("Put of %q into %s: the tree itself is %t", e.Key, old.text, out == n)
	}
	if more := leavesOf(out) - leavesOf(n); more != 0 && more != 1 {
		t.Fatalf("Put of %q into %s: %d more leaves", e.Key, old.text, more)
	}
	if more := out.Height() - n.Height(); more != 0 && more != 1 {
		t.Fatalf("Put of %q into %s: %d more levels", e.Key, old.text, more)
	}
	return out
}

// dels does a Del, and checks all that is promised of it.
func dels(t *testing.T, n *node.Node, key string) *node.Node {
	t.Helper()
	old := remember(n)
	want, there := listWithout(old.list, key)
	out, found := Del(n, key)
	if found != there || !there && out != n {
		t.Fatalf("Del of %q from %s: %t, the tree itself is %t", key, old.text, found, out == n)
	}
	if len(want) == 0 && there && out != nil {
		t.Fatalf("Del of the last entry %q: %s", key, shape(out))
	}
	shows(t, out, old, want)
	return out
}

// asks checks what can be asked of a tree with these entries, for a key (P10.1).
func asks(t *testing.T, n *node.Node, l []api.Entry, key string) {
	t.Helper()
	want, there := "", false
	for _, e := range l {
		if e.Key == key {
			want, there = e.Value, true
		}
	}
	if value, found := Get(n, key); value != want || found != there {
		t.Fatalf("Get of %q in %s: %q, %t", key, shape(n), value, found)
	}
	if path := Path(n, key); !slices.Equal(path, pathOf(n, key)) {
		t.Fatalf("Path of %q in %s: %d nodes", key, shape(n), len(path))
	}
}

// pathOf goes from kid to kid by the words of the chapter, from the last one back.
func pathOf(n *node.Node, key string) []*node.Node {
	if n == nil {
		return nil
	}
	kids := n.Kids()
	if len(kids) == 0 {
		return []*node.Node{n}
	}
	for i := len(kids) - 1; i >= 0; i-- {
		if least, _ := kids[i].Ends(); least <= key || i == 0 {
			return append([]*node.Node{n}, pathOf(kids[i], key)...)
		}
	}
	return nil
}

// nearKeys are the keys of a tree that grown makes, and one beside each, in front of all and behind all.
func nearKeys(l []api.Entry) []string {
	out := []string{"0", number(5)}
	for _, e := range l {
		out = append(out, e.Key, e.Key+"5")
	}
	return append(out, "z")
}

var (
	long  = strings.Repeat("k", api.MaxKey)
	large = strings.Repeat("v", api.MaxValue)
)

// The chapter's example, in every order of five entries.
func TestExample(t *testing.T) {
	var orders func(done, left string)
	orders = func(done, left string) {
		for i := range left {
			orders(done+left[i:i+1], left[:i]+left[i+1:])
		}
		if left != "" {
			return
		}
		var n *node.Node
		for _, key := range strings.Split(done, "") {
			n = puts(t, n, api.Entry{Key: key, Value: key + key})
		}
		if shape(n) != "[3 2]" {
			t.Errorf("five entries in the order %s form %s", done, shape(n))
		}
	}
	orders("", "abcde")
}

// P10.1, P10.2: the empty tree.
func TestNil(t *testing.T) {
	for _, key := range []string{"", "a", long, long + "k"} {
		if value, found := Get(nil, key); value != "" || found {
			t.Errorf("Get of %q: %q, %t", key, value, found)
		}
		if n, found := Del(nil, key); n != nil || found {
			t.Errorf("Del of %q: %v, %t", key, n, found)
		}
		if path := Path(nil, key); len(path) != 0 {
			t.Errorf("Path of %q: %v", key, path)
		}
	}
	if l := Items(nil); len(l) != 0 || !Right(nil) {
		t.Errorf("Items: %v, Right: %t", l, Right(nil))
	}
	if all, shared := Nodes(nil, nil); all != 0 || shared != 0 {
		t.Errorf("Nodes: %d, %d", all, shared)
	}
	n := puts(t, nil, api.Entry{Key: "a", Value: "1"})
	if shape(n) != "1" || n.Height() != 1 || !Right(n) {
		t.Errorf("one entry forms %s", shape(n))
	}
}

// A tree that is a zero Node has no entries and is not valid, but it is not nil.
func TestZeroNode(t *testing.T) {
	zero := new(node.Node)
	if value, found := Get(zero, "a"); value != "" || found {
		t.Errorf("Get: %q, %t", value, found)
	}
	if n, found := Del(zero, "a"); n != zero || found {
		t.Errorf("Del: %v, %t", n, found)
	}
	if path := Path(zero, "a"); !slices.Equal(path, []*node.Node{zero}) {
		t.Errorf("Path: %v", path)
	}
	if l := Items(zero); len(l) != 0 || Right(zero) || Right(&node.Node{}) {
		t.Errorf("Items: %v, Right: %t", l, Right(zero))
	}
	if all, shared := Nodes(zero, zero); all != 1 || shared != 1 {
		t.Errorf("Nodes: %d, %d", all, shared)
	}
	if all, shared := Nodes(zero, grown(t, "[2 2]")); all != 1 || shared != 0 {
		t.Errorf("Nodes: %d, %d", all, shared)
	}
	if n, err := Put(zero, api.Entry{}); n != nil || err != api.ErrArg {
		t.Errorf("Put: %v, %d", n, err)
	}
	n, err := Put(zero, api.Entry{Key: "a"})
	if err != api.OK || shape(n) != "1" || !Right(n) || zero.Size() != 0 {
		t.Errorf("Put: %s, %d", shape(n), err)
	}
}

// P10.1: Get and Path, of every key of trees of some shapes, and of keys beside them.
func TestGet(t *testing.T) {
	for _, text := range []string{"1", "2", "4", "[2 2]", "[4 4]", "[1 1]", "[3 2 4]", "[4 4 4 4 4 4]", "[[2 2 2] [2 2 2]]", "[[4 3 2] [2 3 4 2] [2 2 2 2 2 2]]", "[[1 2] [1 1]]", "[[[2 2 2] [2 2 2] [2 2 2]] [[2 2 2] [3 3 3] [4 4 4]]]"} {
		n := grown(t, text)
		l := entriesOf(n)
		for _, key := range append(nearKeys(l), "", "\x00", "\xff", long, long+"k", strings.Repeat("0", 1000)) {
			asks(t, n, l, key)
		}
	}
}

// P10.1: Get, written out: keys that are there, below the least, above the greatest, between two leaves, empty, and too long.
func TestGetExamples(t *testing.T) {
	n := grown(t, "[2 2 2]")
	for _, c := range []struct {
		key, value string
		found      bool
	}{
		{number(10), "v10", true}, {number(20), "v20", true}, {number(30), "v30", true}, {number(60), "v60", true},
		{number(5), "", false}, {number(15), "", false}, {number(25), "", false}, {number(65), "", false},
		{"", "", false}, {number(10) + "\x00", "", false}, {number(10)[:7], "", false}, {strings.Repeat(number(30), 4), "", false},
	} {
		if value, found := Get(n, c.key); value != c.value || found != c.found {
			t.Errorf("Get of %q: %q, %t", c.key, value, found)
		}
	}
	// An entry with an empty value is there.
	n = puts(t, n, api.Entry{Key: "e"})
	if value, found := Get(n, "e"); value != "" || !found {
		t.Errorf("Get of an empty value: %q, %t", value, found)
	}
}

// P10.1: keys are compared by bytes, and no key is taken for one that it begins with.
func TestBytewise(t *testing.T) {
	keys := []string{"\x00", "\x00\x00", "A", "B", "a", "a\x00", "aa", "b", "é", "\x7f", "\x80", "\xff", "\xff\xff", "10", "9", long, long[1:]}
	var n *node.Node
	for i, key := range keys {
		n = puts(t, n, api.Entry{Key: key, Value: strconv.Itoa(i)})
	}
	for i, key := range keys {
		if value, found := Get(n, key); value != strconv.Itoa(i) || !found {
			t.Errorf("Get of %q: %q, %t", key, value, found)
		}
	}
	slices.Sort(keys)
	for i, e := range Items(n) {
		if e.Key != keys[i] {
			t.Errorf("the entry %d has the key %q, not %q", i, e.Key, keys[i])
		}
	}
	for _, key := range keys {
		n = dels(t, n, key)
	}
}

// P10.1: which nodes Path returns, and in which order.
func TestPath(t *testing.T) {
	n := grown(t, "[[2 2 2] [2 2 2]]")
	low, high := n.Kids()[0], n.Kids()[1]
	for _, c := range []struct {
		key  string
		want []*node.Node
	}{
		{"", []*node.Node{n, low, low.Kids()[0]}},
		{number(5), []*node.Node{n, low, low.Kids()[0]}},
		{number(10), []*node.Node{n, low, low.Kids()[0]}},
		{number(29), []*node.Node{n, low, low.Kids()[0]}},
		{number(30), []*node.Node{n, low, low.Kids()[1]}},
		{number(69), []*node.Node{n, low, low.Kids()[2]}},
		{number(70), []*node.Node{n, high, high.Kids()[0]}},
		{number(95), []*node.Node{n, high, high.Kids()[1]}},
		{number(120), []*node.Node{n, high, high.Kids()[2]}},
		{long + "z", []*node.Node{n, high, high.Kids()[2]}},
	} {
		if got := Path(n, c.key); !slices.Equal(got, c.want) {
			t.Errorf("Path of %q: %d nodes, not those that were to be", c.key, len(got))
		}
	}
	leaf := grown(t, "3")
	if got := Path(leaf, number(20)); !slices.Equal(got, []*node.Node{leaf}) {
		t.Errorf("Path in a leaf: %d nodes", len(got))
	}
}

// P10.1: Items, written out and for many shapes.
func TestItems(t *testing.T) {
	want := []api.Entry{{Key: number(10), Value: "v10"}, {Key: number(20), Value: "v20"}, {Key: number(30), Value: "v30"}, {Key: number(40), Value: "v40"}, {Key: number(50), Value: "v50"}}
	if got := Items(grown(t, "[2 3]")); !slices.Equal(got, want) {
		t.Errorf("Items: %v", got)
	}
	for _, text := range []string{"1", "4", "[1 1]", "[4 2 3]", "[[2 2] [1 3 4]]", "[[[2 2 2] [2 2 2] [2 2 2]] [[2 2 2] [3 3 3] [4 4 4]]]"} {
		n := grown(t, text)
		if got := Items(n); !slices.Equal(got, entriesOf(n)) {
			t.Errorf("Items of %s: %v", text, got)
		}
	}
}

// P10.1: trees that are valid, and such with a node below the root that is not sufficiently filled.
func TestRight(t *testing.T) {
	for _, c := range []struct {
		text string
		want bool
	}{
		{"1", true}, {"2", true}, {"4", true}, {"[2 2]", true}, {"[4 4 4 4 4 4]", true}, {"[2 1]", false}, {"[1 2]", false}, {"[4 4 1 4]", false},
		{"[[2 2 2] [2 2 2]]", true}, {"[[2 2] [2 2 2]]", false}, {"[[2 2 2] [2 2]]", false}, {"[[2 2 2] [2 1 2]]", false},
		{"[[4 4 4] [4 4 4 4 4 4] [4 4 4]]", true}, {"[[4 4 4] [4 4] [4 4 4]]", false},
		{"[[[2 2 2] [2 2 2] [2 2 2]] [[2 2 2] [2 2 2] [2 2 2]]]", true},
		{"[[[2 2 2] [2 2 2] [2 2 2]] [[2 2 2] [2 2 2] [2 2 1]]]", false},
		{"[[[2 2 2] [2 2 2] [2 2 2]] [[2 2 2] [2 2 2]]]", false},
		{"[[[2 2 2] [2 2] [2 2 2]] [[2 2 2] [2 2 2] [2 2 2]]]", false},
	} {
		n := grown(t, c.text)
		if got := Right(n); got != c.want || validOf(n) != c.want {
			t.Errorf("Right of %s: %t", c.text, got)
		}
	}
}

// P10.1: the nodes of trees that are alike, unlike, and partly shared.
func TestNodes(t *testing.T) {
	for _, c := range []struct {
		text string
		all  int
	}{
		{"1", 1}, {"4", 1}, {"[2 2]", 3}, {"[2 2 2 2 2 2]", 7}, {"[1 1]", 3}, {"[[2 2 2] [2 2 2]]", 9}, {"[[[1 1] [1 1]] [[1 1] [1 1]]]", 15},
	} {
		n, same := grown(t, c.text), grown(t, c.text)
		// Nodes that are made alike are still other nodes.
		for _, other := range []*node.Node{nil, same, grown(t, "3"), grown(t, "[2 3 4]"), {}} {
			if all, shared := Nodes(n, other); all != c.all || shared != 0 {
				t.Errorf("Nodes of %s: %d, %d", c.text, all, shared)
			}
			if _, shared := Nodes(other, n); shared != 0 {
				t.Errorf("Nodes of another one than %s: %d are shared", c.text, shared)
			}
		}
		if all, shared := Nodes(n, n); all != c.all || shared != c.all {
			t.Errorf("Nodes of %s and itself: %d, %d", c.text, all, shared)
		}
		if all, shared := Nodes(nil, n); all != 0 || shared != 0 {
			t.Errorf("Nodes of nil: %d, %d", all, shared)
		}
	}
}

// P10.1: nodes that are shared below others that are not, and the part of a tree as the other one.
func TestNodesPartly(t *testing.T) {
	r := &reader{t: t, text: "[2 2 2][2 2 2][2 2 2]"}
	a, b, c := r.node(), r.node(), r.node()
	ab, _ := node.Branch([]*node.Node{a, b})
	bc, _ := node.Branch([]*node.Node{b, c})
	abc, _ := node.Branch([]*node.Node{a, b, c})
	x, _ := node.Branch(append(a.Kids(), b.Kids()[0]))
	for _, p := range []struct {
		n, other    *node.Node
		all, shared int
	}{
		{ab, bc, 9, 4}, {bc, ab, 9, 4}, {ab, abc, 9, 8}, {abc, ab, 13, 8}, {abc, bc, 13, 8}, {abc, abc, 13, 13},
		{ab, a, 9, 4}, {a, ab, 4, 4}, {b, ab, 4, 4}, {c, ab, 4, 0}, {ab, c, 9, 0}, {b.Kids()[1], ab, 1, 1}, {ab, b.Kids()[1], 9, 1},
		{x, ab, 5, 4}, {ab, x, 9, 4}, {x, a, 5, 3}, {x, b, 5, 1}, {x, c, 5, 0}, {x, bc, 5, 1},
	} {
		if all, shared := Nodes(p.n, p.other); all != p.all || shared != p.shared {
			t.Errorf("Nodes of %s and %s: %d, %d, not %d, %d", shape(p.n), shape(p.other), all, shared, p.all, p.shared)
		}
	}
	// An update shares the other leaves: of seven, one changes, and the branches above it.
	n := grown(t, "[[2 2 2] [2 2 2 2]]")
	m := puts(t, n, api.Entry{Key: number(10), Value: "other"})
	if all, shared := Nodes(m, n); all != 10 || shared != 7 {
		t.Errorf("Nodes after a Put: %d, %d", all, shared)
	}
	if all, shared := Nodes(n, m); all != 10 || shared != 7 {
		t.Errorf("Nodes before a Put: %d, %d", all, shared)
	}
}

// P10.2: entries that are not valid: the error of layer 3 for the key, then that for the value, and no tree.
func TestPutErrors(t *testing.T) {
	there := number(10)
	for _, text := range []string{"1", "4", "[2 2]", "[[2 2 2] [2 2 2]]", "[1 1]"} {
		for _, n := range []*node.Node{nil, grown(t, text)} {
			old := remember(n)
			for _, c := range []struct {
				e    api.Entry
				want api.Errno
			}{
				{api.Entry{}, api.ErrArg}, {api.Entry{Value: "a"}, api.ErrArg}, {api.Entry{Value: large}, api.ErrArg}, {api.Entry{Value: large + "v"}, api.ErrArg},
				{api.Entry{Key: long + "k"}, api.ErrLong}, {api.Entry{Key: long + "k", Value: large + "v"}, api.ErrLong}, {api.Entry{Key: strings.Repeat(long, 1000)}, api.ErrLong},
				{api.Entry{Key: "a", Value: large + "v"}, api.ErrLong}, {api.Entry{Key: there, Value: large + "v"}, api.ErrLong}, {api.Entry{Key: long, Value: strings.Repeat(large, 1000)}, api.ErrLong},
			} {
				if m, err := Put(n, c.e); m != nil || err != c.want {
					t.Errorf("Put of a key of %d and a value of %d bytes: %v, %d", len(c.e.Key), len(c.e.Value), m, err)
				}
				old.check(t)
			}
			for _, e := range []api.Entry{{Key: "k"}, {Key: "\x00"}, {Key: "\xff", Value: large}, {Key: long, Value: large}, {Key: long[1:], Value: large[1:]}} {
				puts(t, n, e)
			}
		}
	}
}

// P10.2: an entry that is there is put again: the tree itself. With another value, the tree is another one.
func TestPutSame(t *testing.T) {
	for _, text := range []string{"1", "4", "[2 2]", "[1 1]", "[4 4 4 4 4 4]", "[[2 2 2] [4 4 4]]", "[[1 1] [2 2]]", "[[[2 2 2] [2 2 2] [2 2 2]] [[4 4 4] [2 2 2] [2 2 2]]]"} {
		n := grown(t, text)
		for _, e := range entriesOf(n) {
			if m, err := Put(n, e); m != n || err != api.OK {
				t.Errorf("Put of an entry of %s: %d, the tree itself is %t", text, err, m == n)
			}
			for _, value := range []string{"", "V", e.Value + "0", e.Value[:1], large} {
				m := puts(t, n, api.Entry{Key: e.Key, Value: value})
				if shape(m) != text {
					t.Errorf("Put of another value: %s becomes %s", text, shape(m))
				}
				if back := puts(t, m, e); back == n || !slices.Equal(entriesOf(back), entriesOf(n)) {
					t.Errorf("Put of the old value again into %s", text)
				}
			}
		}
	}
	n := puts(t, nil, api.Entry{Key: "a"})
	if m, err := Put(n, api.Entry{Key: "a"}); m != n || err != api.OK {
		t.Errorf("Put of an empty value again: %d", err)
	}
}

// P10.2: how many leaves and levels there are after a Put that cuts nothing, a leaf, branches, and the root.
func TestPutCuts(t *testing.T) {
	for _, c := range []struct {
		text           string
		key            int
		leaves, levels int
	}{
		{"1", 5, 1, 1}, {"1", 15, 1, 1}, {"3", 5, 1, 1}, {"3", 25, 1, 1}, {"3", 35, 1, 1},
		// A leaf that is the root.
		{"4", 5, 2, 2}, {"4", 15, 2, 2}, {"4", 25, 2, 2}, {"4", 35, 2, 2}, {"4", 45, 2, 2}, {"4", 10, 1, 1},
		// A leaf below a root with room, the first, the middle and the last one; beside one that has room.
		{"[4 4]", 5, 3, 2}, {"[4 4]", 45, 3, 2}, {"[4 4]", 85, 3, 2}, {"[4 2 4]", 5, 4, 2}, {"[4 2 4]", 55, 3, 2}, {"[4 2 4]", 65, 3, 2}, {"[4 2 4]", 75, 4, 2},
		{"[4 4 4 4 4]", 95, 6, 2}, {"[2 2 2 2 2 2]", 65, 6, 2},
		// A leaf and the root above it.
		{"[4 4 4 4 4 4]", 5, 7, 3}, {"[4 4 4 4 4 4]", 125, 7, 3}, {"[4 4 4 4 4 4]", 245, 7, 3}, {"[4 4 4 4 4 4]", 120, 6, 2}, {"[4 2 2 2 2 2]", 15, 7, 3},
		// A leaf and a branch, below a root with room.
		{"[[4 4 4 4 4 4] [4 4 4]]", 5, 10, 3}, {"[[4 4 4 4 4 4] [4 4 4]]", 245, 10, 3}, {"[[2 2 2] [4 4 4 4 4 4]]", 305, 10, 3}, {"[[2 2 2] [4 4 4]]", 185, 7, 3},
		// All levels.
		{"[[4 4 4 4 4 4] [2 2 2] [2 2 2] [2 2 2] [2 2 2] [2 2 2]]", 5, 22, 4}, {"[[2 2 2] [2 2 2] [2 2 2] [2 2 2] [2 2 2] [4 4 4 4 4 4]]", 545, 22, 4},
		{"[[2 2 2] [2 2 2] [4 4 4 4 4 4] [2 2 2] [2 2 2] [2 2 2]]", 245, 22, 4}, {"[[2 2 2] [2 2 2] [4 4 4 4 4] [2 2 2] [2 2 2] [2 2 2]]", 245, 21, 3},
	} {
		n := grown(t, c.text)
		m := puts(t, n, api.Entry{Key: number(c.key), Value: "new"})
		if leavesOf(m) != c.leaves || m.Height() != c.levels {
			t.Errorf("Put of %d into %s: %s", c.key, c.text, shape(m))
		}
	}
}

// P10.2: a new key in front of, between and behind all others, at each place.
func TestPutPlaces(t *testing.T) {
	for _, text := range []string{"1", "3", "4", "[2 2]", "[4 4 4]", "[4 4 4 4 4 4]", "[[4 4 4] [4 4 4 4 4 4]]", "[[2 2 2] [3 3 3] [2 3 4]]"} {
		n := grown(t, text)
		for _, key := range nearKeys(entriesOf(n)) {
			m := puts(t, n, api.Entry{Key: key, Value: "new"})
			if value, found := Get(m, key); value != "new" || !found {
				t.Errorf("Get of what was put: %q, %t", value, found)
			}
		}
	}
}

// P10.2: Del of keys that are not there, in and beside the range of the tree, and of such as can be in none.
func TestDelNone(t *testing.T) {
	for _, text := range []string{"1", "4", "[2 2]", "[1 1]", "[[2 2 2] [2 2 2]]", "[[1 1] [1 1]]"} {
		n := grown(t, text)
		for _, key := range []string{"", "0", number(5), number(10)[:7], number(10) + "\x00", number(15), number(25), number(10000), long, long + "k", strings.Repeat(number(10), 100)} {
			if m, found := Del(n, key); m != n || found {
				t.Errorf("Del of %q from %s: %s, %t", key, text, shape(m), found)
			}
		}
	}
}

// P10.2: Del of single entries. Where several trees would be valid, all of them are named.
func TestDel(t *testing.T) {
	for _, c := range []struct {
		text string
		key  int
		want string
	}{
		// A leaf that is the root needs no neighbor; the last entry leaves nil, whose shape is 0.
		{"1", 10, "0"}, {"2", 10, "1"}, {"2", 20, "1"}, {"4", 30, "3"},
		// A leaf that has more than enough.
		{"[3 2]", 10, "[2 2]"}, {"[2 3]", 50, "[2 2]"}, {"[2 4 2]", 40, "[2 3 2]"},
		// Leaves are joined, and the height falls.
		{"[2 2]", 10, "3"}, {"[2 2]", 40, "3"},
		// Leaves are joined, with the neighbor in front or behind.
		{"[2 2 2]", 10, "[3 2]"}, {"[2 2 2]", 60, "[2 3]"}, {"[2 2 2]", 30, "[3 2]|[2 3]"}, {"[2 3 4]", 10, "[4 4]"}, {"[4 3 2]", 80, "[4 4]"},
		// A leaf is filled from its neighbor behind, or in front.
		{"[2 4]", 10, "[3 2]|[2 3]"}, {"[4 2]", 60, "[3 2]|[2 3]"}, {"[2 4 4]", 20, "[3 2 4]|[2 3 4]"}, {"[4 4 2]", 100, "[4 3 2]|[4 2 3]"},
		// Leaves and branches are joined, and the height falls.
		{"[[2 2 2] [2 2 2]]", 10, "[3 2 2 2 2]"}, {"[[2 2 2] [2 2 2]]", 120, "[2 2 2 2 3]"},
		// A branch is filled from its neighbor behind, or in front.
		{"[[2 2 2] [2 2 2 2 2]]", 10, "[[3 2 2 2] [2 2 2]]|[[3 2 2] [2 2 2 2]]"}, {"[[2 2 2 2 2 2] [2 2 2]]", 180, "[[2 2 2 2] [2 2 2 3]]|[[2 2 2 2 2] [2 2 3]]|[[2 2 2] [2 2 2 2 3]]"},
		// Branches are joined below a root that keeps its height.
		{"[[2 2 2] [2 2 2] [2 2 2]]", 10, "[[3 2 2 2 2] [2 2 2]]"}, {"[[2 2 2] [2 2 2] [2 2 2]]", 180, "[[2 2 2] [2 2 2 2 3]]"},
	} {
		n := grown(t, c.text)
		got := shape(dels(t, n, number(c.key)))
		if !slices.Contains(strings.Split(c.want, "|"), got) {
			t.Errorf("Del of %d from %s: %s, not %s", c.key, c.text, got, c.want)
		}
	}
}

// P10.2: three levels fall one by one until nothing is left, from the front, from behind, and from the middle.
func TestDelAll(t *testing.T) {
	for _, text := range []string{"4", "[2 2]", "[4 4 4 4 4 4]", "[[2 2 2] [2 2 2]]", "[[4 4 4] [2 2 2 2 2 2] [4 4 4 4 4 4]]", "[[[2 2 2] [2 2 2] [2 2 2]] [[4 4 4] [4 4 4] [4 4 4]]]"} {
		for from := range 3 {
			n := grown(t, text)
			heights := []int{n.Height()}
			for l := entriesOf(n); len(l) > 0; {
				at := from * (len(l) - 1) / 2
				n = dels(t, n, l[at].Key)
				l = slices.Delete(l, at, at+1)
				if !slices.Equal(entriesOf(n), l) {
					t.Fatalf("%s has the entries %v", shape(n), entriesOf(n))
				}
				if h := n.Height(); h != heights[len(heights)-1] {
					heights = append(heights, h)
				}
			}
			if n != nil {
				t.Errorf("%s, when all are taken", shape(n))
			}
			for i, h := range heights {
				if h != heights[0]-i {
					t.Errorf("from %s on, the heights are %v", text, heights)
				}
			}
		}
	}
}

// every does each Put and each Del that a tree allows, with keys at and beside all entries.
func every(t *testing.T, n *node.Node) {
	t.Helper()
	l := entriesOf(n)
	for _, key := range nearKeys(l) {
		puts(t, n, api.Entry{Key: key, Value: "new"})
		dels(t, n, key)
		asks(t, n, l, key)
	}
}

// shapesOf calls check with all branches of a number of kids, each of one of some shapes.
func shapesOf(kids []string, size int, check func(text string)) {
	var longer func(text string, left int)
	longer = func(text string, left int) {
		if left == 0 {
			check("[" + text[1:] + "]")
			return
		}
		for _, kid := range kids {
			longer(text+" "+kid, left-1)
		}
	}
	longer("", size)
}

// P10.1 to P10.3: every update of all small trees of two levels, valid and not.
func TestAllOfTwoLevels(t *testing.T) {
	for size := 2; size <= 6; size++ {
		sizes := []string{"1", "2", "3", "4"}
		if size > 3 {
			sizes = []string{"1", "2", "4"}
		}
		if size > 4 {
			sizes = []string{"2", "4"}
		}
		shapesOf(sizes, size, func(text string) { every(t, grown(t, text)) })
	}
}

// P10.1 to P10.3: every update of trees of three and four levels, valid and not.
func TestAllOfMoreLevels(t *testing.T) {
	kids := []string{"[1 1]", "[2 2 2]", "[1 2]", "[4 4 4]", "[2 2 2 2]", "[4 2 4 2 4 2]", "[1 1 1 1 1 1]"}
	shapesOf(kids, 2, func(text string) { every(t, grown(t, text)) })
	shapesOf([]string{"[1 1]", "[2 2 2]", "[4 4 4 4 4 4]"}, 3, func(text string) { every(t, grown(t, text)) })
	shapesOf([]string{"[[1 1] [1 1]]", "[[2 2 2] [2 2 2] [2 2 2]]", "[[1 2] [2 2 2]]", "[[2 2 2] [4 4 4 4 4 4] [2 2 2]]"}, 2, func(text string) { every(t, grown(t, text)) })
	full := "[4 4 4 4 4 4]"
	for _, below := range []string{full, "[2 2 2]", "[1 1]"} {
		every(t, grown(t, "["+strings.TrimSpace(strings.Repeat(below+" ", 6))+"]"))
	}
}

// P10.2, P10.3: every tree stays what it was while others are derived from it and from those.
func TestOldTrees(t *testing.T) {
	source := rand.New(rand.NewSource(10))
	olds := []memo{remember(nil)}
	for range 2000 {
		n := olds[source.Intn(len(olds))].n
		if source.Intn(4) > 0 {
			n = olds[len(olds)-1].n
		}
		key := number(source.Intn(150))
		if source.Intn(5) < 3 {
			n = puts(t, n, api.Entry{Key: key, Value: strconv.Itoa(source.Intn(3))})
		} else {
			n = dels(t, n, key)
		}
		olds = append(olds, remember(n))
	}
	for _, old := range olds {
		old.check(t)
		if !slices.Equal(Items(old.n), old.list) {
			t.Fatalf("Items of an old tree: %v", Items(old.n))
		}
	}
}

// P10.2: long sequences of updates, compared with a sorted list after each.
func TestLongSequences(t *testing.T) {
	for seed := range 30 {
		source := rand.New(rand.NewSource(int64(seed)))
		keys := 1 << (1 + seed%9)
		var n *node.Node
		var l []api.Entry
		for step := range 600 {
			e := api.Entry{Key: number(source.Intn(keys)), Value: strconv.Itoa(source.Intn(2))}
			// The tree grows at first, and then shrinks.
			if (source.Intn(10) < 7) == (step < 400) {
				n = puts(t, n, e)
				l = listWith(l, e)
			} else {
				n = dels(t, n, e.Key)
				l, _ = listWithout(l, e.Key)
			}
			if !slices.Equal(Items(n), l) || !Right(n) {
				t.Fatalf("seed %d, step %d: %s", seed, step, shape(n))
			}
			asks(t, n, l, number(source.Intn(keys)))
		}
	}
}

// P10.2: entries that are put and taken in rising, falling and mixed order, in a tree of many levels.
func TestLarge(t *testing.T) {
	const size = 20000
	orders := [][]int{nil, nil, rand.New(rand.NewSource(1)).Perm(size), rand.New(rand.NewSource(2)).Perm(size)}
	for i := range size {
		orders[0], orders[1] = append(orders[0], i), append(orders[1], size-1-i)
	}
	for i, order := range orders {
		n := fill(t, order)
		l := Items(n)
		if len(l) != size || !Right(n) || !validOf(n) || n.Height() < 7 {
			t.Fatalf("%d entries, height %d", len(l), n.Height())
		}
		for k, e := range l {
			if e.Key != number(k) || e.Value != strconv.Itoa(k) {
				t.Fatalf("the entry %d is %v", k, e)
			}
		}
		clear := orders[(i+1)%len(orders)]
		for k, key := range clear {
			m, found := Del(n, number(key))
			if !found || k%999 == 0 && (strangers(m, n) > 3*n.Height()+3 || !validOf(m)) {
				t.Fatalf("Del of %d: %t", key, found)
			}
			n = m
		}
		if n != nil {
			t.Fatalf("%s, when all are taken", shape(n))
		}
	}
}

// fill puts numbers into nil, in their order.
func fill(t *testing.T, order []int) *node.Node {
	t.Helper()
	var n *node.Node
	for k, i := range order {
		m, err := Put(n, api.Entry{Key: number(i), Value: strconv.Itoa(i)})
		if err != api.OK || k%999 == 0 && (strangers(m, n) > 3*n.Height()+3 || !validOf(m)) {
			t.Fatalf("Put of %d: %d", i, err)
		}
		n = m
	}
	return n
}

// R1: a tree above MaxHeight, in which everything lacks something, is taken as it is: it is only not valid.
func TestHigh(t *testing.T) {
	var row []*node.Node
	for i := range 1 << 16 {
		n, _ := node.Leaf([]api.Entry{{Key: number(i)}})
		row = append(row, n)
	}
	for len(row) > 1 {
		var above []*node.Node
		for i := 0; i < len(row); i += 2 {
			n, _ := node.Branch(row[i : i+2])
			above = append(above, n)
		}
		row = above
	}
	n := row[0]
	if n.Height() <= api.MaxHeight || Right(n) {
		t.Fatalf("height %d, Right %t", n.Height(), Right(n))
	}
	for _, i := range []int{0, 1<<15 + 1} {
		asks(t, n, []api.Entry{{Key: number(i)}}, number(i))
		puts(t, n, api.Entry{Key: number(i), Value: "new"})
		puts(t, n, api.Entry{Key: number(i) + "5"})
		dels(t, n, number(i))
	}
	if all, shared := Nodes(n, n); all != 1<<17-1 || shared != all {
		t.Errorf("Nodes: %d, %d", all, shared)
	}
}

// R3: lists that the caller changes, or appends to, after they came out.
func TestListsThatCameOut(t *testing.T) {
	for _, text := range []string{"1", "3", "4", "[2 2]", "[3 2 4]", "[[2 2 2] [4 3 2]]"} {
		n := grown(t, text)
		old := remember(n)
		key := old.list[0].Key
		items, again := Items(n), Items(n)
		path, other := Path(n, key), Path(n, key)
		for i := range items {
			items[i] = api.Entry{Key: "x", Value: "y"}
		}
		for i := range path {
			path[i] = nil
		}
		_ = append(items, api.Entry{Key: "z"})
		_ = append(path, n)
		old.check(t)
		if !slices.Equal(again, old.list) || !slices.Equal(Items(n), old.list) {
			t.Errorf("Items of %s share memory", text)
		}
		if !slices.Equal(other, pathOf(n, key)) || !slices.Equal(Path(n, key), pathOf(n, key)) {
			t.Errorf("Paths in %s share memory", text)
		}
	}
}

// R3: the lists of an updated tree's nodes are its own, whatever is done with those of the old one.
func TestListsOfNodes(t *testing.T) {
	n := grown(t, "[4 4 2]")
	for _, m := range []*node.Node{puts(t, n, api.Entry{Key: number(5)}), puts(t, n, api.Entry{Key: number(45)}), dels(t, n, number(90)), dels(t, n, number(10))} {
		was := remember(m)
		for _, x := range append(allOf(n), allOf(m)...) {
			for _, list := range [][]api.Entry{x.Entries(), x.Entries()[:0]} {
				_ = append(list, api.Entry{Key: "x"})
			}
			kids := x.Kids()
			for i := range kids {
				kids[i] = nil
			}
		}
		was.check(t)
	}
}

// R6: the same calls yield trees of the same shape, with the same entries.
func TestRepeated(t *testing.T) {
	order := rand.New(rand.NewSource(3)).Perm(500)
	a, b := fill(t, order), fill(t, order)
	if a == b || shape(a) != shape(b) || !slices.Equal(Items(a), Items(b)) {
		t.Error("the same calls yield trees that differ")
	}
	for _, i := range order[:250] {
		x, _ := Del(a, number(i))
		y, _ := Del(a, number(i))
		if shape(x) != shape(y) || !slices.Equal(Items(x), Items(y)) {
			t.Fatalf("Del of %d yields trees that differ", i)
		}
		a = x
	}
}

// FuzzUpdates takes its bytes as updates, and compares the tree with a list after each.
func FuzzUpdates(f *testing.F) {
	f.Add([]byte("abcdefghijklmnopqrstuvwxyz"))
	f.Add([]byte("zyxwvutsrqponmlkjihgfedcba\x9f\x9e\x9d\x9c\x9b\x9a"))
	f.Add([]byte("aaaa\xe1\xe1bb\xe2\x00\x80"))
	f.Fuzz(func(t *testing.T, b []byte) {
		var n *node.Node
		var l []api.Entry
		for i, x := range b[:min(len(b), 500)] {
			key := string(rune(x & 0x7f))
			if x < 0x80 {
				e := api.Entry{Key: key, Value: strconv.Itoa(i % 3)}
				n = puts(t, n, e)
				l = listWith(l, e)
			} else {
				n = dels(t, n, key)
				l, _ = listWithout(l, key)
			}
			if !Right(n) || !slices.Equal(Items(n), l) {
				t.Fatalf("after %d updates: %s", i+1, shape(n))
			}
			asks(t, n, l, key)
		}
	})
}
