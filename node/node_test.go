package node

import (
	"math/rand"
	"slices"
	"strconv"
	"strings"
	"testing"

	"sapwood/api"
)

// plan is a node by the chapter's words: the entries of a leaf, or the plans of the kids of a branch. A nil plan is a nil node, and an empty one that is not nil a zero Node.
type plan struct {
	entries []api.Entry
	kids    []*plan
}

func (p *plan) height() int {
	switch {
	case p == nil:
		return 0
	case len(p.kids) > 0:
		return p.kids[0].height() + 1
	case len(p.entries) > 0:
		return 1
	}
	return 0
}

// keys are all keys below, in no order that is relied on.
func (p *plan) keys() []string {
	var out []string
	if p != nil {
		for _, e := range p.entries {
			out = append(out, e.Key)
		}
		for _, kid := range p.kids {
			out = append(out, kid.keys()...)
		}
	}
	return out
}

func (p *plan) ends() (least, greatest string) {
	if keys := p.keys(); len(keys) > 0 {
		return slices.Min(keys), slices.Max(keys)
	}
	return "", ""
}

// filled says whether a node is sufficiently filled.
func (p *plan) filled() bool {
	if p.height() == 1 {
		return len(p.entries) >= 2
	}
	return len(p.kids) >= 3
}

func (p *plan) full() bool {
	if p != nil {
		for _, kid := range p.kids {
			if !kid.filled() || !kid.full() {
				return false
			}
		}
	}
	return true
}

// leafRight says whether a leaf with these entries would be valid.
func leafRight(l []api.Entry) bool {
	right := len(l) >= 1 && len(l) <= 4
	for i, e := range l {
		right = right && len(e.Key) >= 1 && len(e.Key) <= 24 && len(e.Value) <= 400
		right = right && (i == 0 || strings.Compare(l[i-1].Key, e.Key) < 0)
	}
	return right
}

// branchRight says whether a branch with these kids would be valid.
func branchRight(kids []*plan) bool {
	if len(kids) < 2 || len(kids) > 6 {
		return false
	}
	for i, kid := range kids {
		if kid.height() == 0 || kid.height() != kids[0].height() {
			return false
		}
		if i > 0 {
			_, before := kids[i-1].ends()
			least, _ := kid.ends()
			if before >= least {
				return false
			}
		}
	}
	return true
}

// made is a node with its plan.
type made struct {
	n *Node
	p *plan
}

func nodesOf(l []made) []*Node {
	var out []*Node
	for _, m := range l {
		out = append(out, m.n)
	}
	return out
}

func plansOf(l []made) []*plan {
	var out []*plan
	for _, m := range l {
		out = append(out, m.p)
	}
	return out
}

// shows checks everything that can be asked of a node but for which nodes its kids are.
func shows(t *testing.T, n *Node, p *plan) {
	t.Helper()
	entries, kids := 0, 0
	if p != nil {
		entries, kids = len(p.entries), len(p.kids)
		if !slices.Equal(n.Entries(), p.entries) {
			t.Errorf("Entries: %v, not %v", n.Entries(), p.entries)
		}
	}
	if n.Height() != p.height() || n.Size() != entries+kids || len(n.Entries()) != entries || len(n.Kids()) != kids {
		t.Errorf("Height %d, Size %d, %d entries, %d kids; not %d, %d, %d, %d",
			n.Height(), n.Size(), len(n.Entries()), len(n.Kids()), p.height(), entries+kids, entries, kids)
	}
	least, greatest := n.Ends()
	if x, y := p.ends(); x != least || y != greatest {
		t.Errorf("Ends: %q and %q, not %q and %q", least, greatest, x, y)
	}
	if n.Full() != p.full() {
		t.Errorf("Full: %t, not %t", n.Full(), p.full())
	}
}

// tryLeaf makes a leaf if it would be valid, and checks it; otherwise it checks that there is ErrArg alone.
func tryLeaf(t *testing.T, l []api.Entry) (made, bool) {
	t.Helper()
	n, err := Leaf(l)
	if !leafRight(l) {
		if n != nil || err != api.ErrArg {
			t.Errorf("Leaf of %.100v: %v, %d", l, n, err)
		}
		return made{}, false
	}
	if n == nil || err != api.OK {
		t.Fatalf("Leaf of %.100v: %v, %d", l, n, err)
	}
	p := &plan{entries: slices.Clone(l)}
	shows(t, n, p)
	return made{n, p}, true
}

// tryBranch makes a branch if it would be valid, and checks it; otherwise it checks that there is ErrArg alone.
func tryBranch(t *testing.T, kids []made) (made, bool) {
	t.Helper()
	n, err := Branch(nodesOf(kids))
	p := &plan{kids: plansOf(kids)}
	if !branchRight(p.kids) {
		if n != nil || err != api.ErrArg {
			t.Errorf("Branch of %v: %v, %d", nodesOf(kids), n, err)
		}
		return made{}, false
	}
	if n == nil || err != api.OK {
		t.Fatalf("Branch of %v: %v, %d", nodesOf(kids), n, err)
	}
	shows(t, n, p)
	if !slices.Equal(n.Kids(), nodesOf(kids)) {
		t.Errorf("Kids: %v, not the very nodes %v", n.Kids(), nodesOf(kids))
	}
	return made{n, p}, true
}

// list makes entries of keys, each with a value that tells its place.
func list(keys ...string) []api.Entry {
	var out []api.Entry
	for i, key := range keys {
		out = append(out, api.Entry{Key: key, Value: "v" + strconv.Itoa(i)})
	}
	return out
}

// leaf makes a leaf of keys with one letter each.
func leaf(t *testing.T, keys string) made {
	t.Helper()
	m, ok := tryLeaf(t, list(strings.Split(keys, "")...))
	if !ok {
		t.Fatalf("a leaf of %q is taken as not valid", keys)
	}
	return m
}

// branch makes a branch of kids.
func branch(t *testing.T, kids ...made) made {
	t.Helper()
	m, ok := tryBranch(t, kids)
	if !ok {
		t.Fatalf("a branch of %v is taken as not valid", nodesOf(kids))
	}
	return m
}

// number is a key that is greater for a greater number.
func number(i int) string {
	digits := strconv.Itoa(i)
	return strings.Repeat("0", 8-len(digits)) + digits
}

// grow makes nodes with keys that rise from one to the next.
type grow struct {
	t    *testing.T
	next int
}

// leaf makes a leaf with a number of entries.
func (g *grow) leaf(size int) made {
	g.t.Helper()
	var keys []string
	for range size {
		g.next++
		keys = append(keys, number(g.next))
	}
	m, ok := tryLeaf(g.t, list(keys...))
	if !ok {
		g.t.Fatalf("a leaf of %d entries is taken as not valid", size)
	}
	return m
}

// tree makes a node of which all nodes have the same sizes: those of branches from the top, and at last that of leaves.
func (g *grow) tree(sizes ...int) made {
	g.t.Helper()
	if len(sizes) == 1 {
		return g.leaf(sizes[0])
	}
	var kids []made
	for range sizes[0] {
		kids = append(kids, g.tree(sizes[1:]...))
	}
	return branch(g.t, kids...)
}

// P9.1, P9.2: the chapter's example.
func TestExample(t *testing.T) {
	a, err := Leaf([]api.Entry{{Key: "a"}, {Key: "b"}})
	c, other := Leaf([]api.Entry{{Key: "c"}, {Key: "d"}})
	if err != api.OK || other != api.OK {
		t.Fatalf("Leaf: %d, %d", err, other)
	}
	n, err := Branch([]*Node{a, c})
	if err != api.OK {
		t.Fatalf("Branch: %d", err)
	}
	if least, greatest := n.Ends(); n.Height() != 2 || least != "a" || greatest != "d" || !n.Full() {
		t.Errorf("height %d, ends %q and %q, full %t", n.Height(), least, greatest, n.Full())
	}
}

// P9.1: what a leaf shows, written out.
func TestLeaf(t *testing.T) {
	l := []api.Entry{{Key: "a", Value: "1"}, {Key: "b"}, {Key: "ba", Value: "3"}}
	n, err := Leaf(l)
	if err != api.OK || n == nil {
		t.Fatalf("Leaf: %v, %d", n, err)
	}
	if n.Height() != 1 || n.Size() != 3 || !slices.Equal(n.Entries(), l) || len(n.Kids()) != 0 || !n.Full() {
		t.Errorf("height %d, size %d, entries %v, kids %v, full %t", n.Height(), n.Size(), n.Entries(), n.Kids(), n.Full())
	}
	if least, greatest := n.Ends(); least != "a" || greatest != "ba" {
		t.Errorf("Ends: %q and %q", least, greatest)
	}
}

// P9.1: what a branch shows, written out.
func TestBranch(t *testing.T) {
	a, b, c := leaf(t, "ab").n, leaf(t, "c").n, leaf(t, "defg").n
	n, err := Branch([]*Node{a, b, c})
	if err != api.OK || n == nil {
		t.Fatalf("Branch: %v, %d", n, err)
	}
	if n.Height() != 2 || n.Size() != 3 || len(n.Entries()) != 0 || n.Full() {
		t.Errorf("height %d, size %d, entries %v, full %t", n.Height(), n.Size(), n.Entries(), n.Full())
	}
	if kids := n.Kids(); len(kids) != 3 || kids[0] != a || kids[1] != b || kids[2] != c {
		t.Errorf("Kids: %v", kids)
	}
	if least, greatest := n.Ends(); least != "a" || greatest != "g" {
		t.Errorf("Ends: %q and %q", least, greatest)
	}
}

// P9.1: leaves of each number of entries. The number alone makes none of them lack anything: nothing is below a leaf.
func TestLeafSizes(t *testing.T) {
	for size := range 20 {
		var keys []string
		for i := range size {
			keys = append(keys, number(i))
		}
		m, ok := tryLeaf(t, list(keys...))
		if want := size >= 1 && size <= api.LeafMax; ok != want {
			t.Errorf("a leaf of %d entries: %t", size, ok)
		} else if ok && (!m.n.Full() || m.n.Size() != size) {
			t.Errorf("a leaf of %d entries: full %t, size %d", size, m.n.Full(), m.n.Size())
		}
	}
	for _, none := range [][]api.Entry{nil, {}, make([]api.Entry, 0, 5), list("a", "b")[:0]} {
		if n, err := Leaf(none); n != nil || err != api.ErrArg {
			t.Errorf("Leaf of no entry: %v, %d", n, err)
		}
	}
}

// P9.1: keys and values at their limits and beyond, at each place of a leaf.
func TestLeafKeysAndValues(t *testing.T) {
	for _, c := range []struct {
		key   string
		value int
		want  bool
	}{
		{"b", 0, true}, {"b", 24, true}, {"b", 25, true}, {"b", 399, true}, {"b", 400, true}, {"b", 401, false}, {"b", 1 << 20, false},
		{"b\x00", 0, true}, {"b\xff\xff", 1, true}, {"bé", 1, true},
		{strings.Repeat("b", 23), 1, true}, {strings.Repeat("b", 24), 400, true}, {strings.Repeat("b", 24), 401, false},
		{strings.Repeat("b", 25), 1, false}, {strings.Repeat("b", 25), 401, false}, {strings.Repeat("b", 1<<20), 0, false},
		{"bé" + strings.Repeat("é", 11), 1, false},
	} {
		e := api.Entry{Key: c.key, Value: strings.Repeat("x", c.value)}
		for _, l := range [][]api.Entry{
			{e}, {e, {Key: "c"}}, {{Key: "a"}, e}, {{Key: "a"}, e, {Key: "c"}}, {{Key: "Z"}, {Key: "a"}, e, {Key: "c"}},
			{{Key: "Y"}, {Key: "Z"}, {Key: "a"}, e}, {e, {Key: "c"}, {Key: "d"}, {Key: "e"}},
		} {
			if _, ok := tryLeaf(t, l); ok != c.want {
				t.Errorf("a leaf with a key of %d and a value of %d bytes: %t", len(c.key), c.value, ok)
			}
		}
	}
	for _, l := range [][]api.Entry{{{}}, {{Value: "a"}}, {{}, {Key: "a"}}, {{}, {}}, {{Key: "a"}, {}}, {{}, {Key: "a"}, {Key: "b"}, {Key: "c"}}} {
		if n, err := Leaf(l); n != nil || err != api.ErrArg {
			t.Errorf("a leaf with an empty key: %v, %d", n, err)
		}
	}
}

// P9.1: entries that do not rise, with a key twice, and in bytewise order only.
func TestLeafOrder(t *testing.T) {
	for _, keys := range []string{"aa", "ba", "abb", "aab", "acb", "bac", "cab", "cba", "abcc", "aabc", "abbc", "abdc", "bcda", "dcba", "aaaa"} {
		if n, err := Leaf(list(strings.Split(keys, "")...)); n != nil || err != api.ErrArg {
			t.Errorf("Leaf of %s: %v, %d", keys, n, err)
		}
	}
	// The same key is there twice even if the values differ, or rise.
	for _, l := range [][]api.Entry{{{Key: "a", Value: "1"}, {Key: "a", Value: "2"}}, {{Key: "a"}, {Key: "a", Value: "1"}}, {{Key: "a"}, {Key: "a"}}} {
		if n, err := Leaf(l); n != nil || err != api.ErrArg {
			t.Errorf("Leaf of %v: %v, %d", l, n, err)
		}
	}
	for _, keys := range [][]string{{"\x00", "A", "a", "\xff"}, {"a", "a\x00", "aa", "b"}, {"10", "9"}, {"B", "a"}, {"z", "é"}, {"\x7f", "\x80"}} {
		if _, ok := tryLeaf(t, list(keys...)); !ok {
			t.Errorf("Leaf of %q is taken as not valid", keys)
		}
		slices.Reverse(keys)
		if _, ok := tryLeaf(t, list(keys...)); ok {
			t.Errorf("Leaf of %q is taken as valid", keys)
		}
	}
}

// P9.1, R2: every list of up to five of some entries.
func TestAllSmallLeaves(t *testing.T) {
	entries := []api.Entry{
		{}, {Key: "a"}, {Key: "a", Value: "1"}, {Key: "a\x00", Value: strings.Repeat("x", 400)}, {Key: "b", Value: strings.Repeat("x", 401)},
		{Key: strings.Repeat("b", 24)}, {Key: strings.Repeat("b", 25)}, {Key: "c"}, {Key: "\x80", Value: "2"},
	}
	good, bad := 0, 0
	lists(entries, 5, func(l []api.Entry) {
		if _, ok := tryLeaf(t, l); ok {
			good++
		} else {
			bad++
		}
	})
	// Of the six entries that are valid, two have the key a: so many leaves there are of one to four entries.
	if good != 6+14+16+9 || bad < 60000 {
		t.Errorf("%d leaves are valid, %d are not", good, bad)
	}
}

// lists calls check with every list of up to most of some things.
func lists[T any](things []T, most int, check func([]T)) {
	var longer func(l []T)
	longer = func(l []T) {
		check(slices.Clone(l))
		if len(l) < most {
			for _, x := range things {
				longer(append(slices.Clone(l), x))
			}
		}
	}
	longer(nil)
}

// P9.1: branches of each number of kids, which are leaves or branches.
func TestBranchSizes(t *testing.T) {
	for _, below := range [][]int{{1}, {2}, {4}, {2, 1}, {3, 2}, {6, 4}, {3, 3, 2}} {
		for size := range 20 {
			g := &grow{t: t}
			var kids []made
			for range size {
				kids = append(kids, g.tree(below...))
			}
			m, ok := tryBranch(t, kids)
			if want := size >= 2 && size <= api.BranchMax; ok != want {
				t.Errorf("a branch of %d kids: %t", size, ok)
			} else if ok && m.n.Size() != size {
				t.Errorf("a branch of %d kids has the size %d", size, m.n.Size())
			}
		}
	}
	two := []*Node{leaf(t, "a").n, leaf(t, "b").n}
	for _, none := range [][]*Node{nil, {}, make([]*Node, 0, 5), two[:0]} {
		if n, err := Branch(none); n != nil || err != api.ErrArg {
			t.Errorf("Branch of no kid: %v, %d", n, err)
		}
	}
}

// P9.1: a nil Node and a zero Node are no kids, at any place.
func TestBranchWithNone(t *testing.T) {
	for _, none := range []*Node{nil, {}, new(Node)} {
		for size := range 8 {
			g := &grow{t: t}
			var leaves, branches, alone []*Node
			for range size {
				leaves = append(leaves, g.leaf(2).n)
				alone = append(alone, none)
			}
			for range size {
				branches = append(branches, g.tree(3, 2).n)
			}
			for at := range size + 1 {
				for _, kids := range [][]*Node{leaves, branches, alone} {
					if n, err := Branch(slices.Insert(slices.Clone(kids), at, none)); n != nil || err != api.ErrArg {
						t.Errorf("a branch of %d kids, with none at %d: %v, %d", size+1, at, n, err)
					}
				}
			}
		}
	}
	if n, err := Branch([]*Node{nil, {}, {}, nil}); n != nil || err != api.ErrArg {
		t.Errorf("a branch of none: %v, %d", n, err)
	}
	if n, err := Branch([]*Node{{}, {}}); n != nil || err != api.ErrArg {
		t.Errorf("a branch of zero Nodes: %v, %d", n, err)
	}
}

// P9.1: kids of unlike height, in the right order of their keys.
func TestBranchHeights(t *testing.T) {
	shapes := [][]int{{2}, {2, 2}, {2, 2, 2}, {3, 2, 2, 2}}
	for x, low := range shapes {
		for y, high := range shapes {
			for size := 2; size <= 6; size++ {
				for odd := range size {
					g := &grow{t: t}
					var kids []made
					for at := range size {
						if at == odd {
							kids = append(kids, g.tree(high...))
						} else {
							kids = append(kids, g.tree(low...))
						}
					}
					if _, ok := tryBranch(t, kids); ok != (x == y) {
						t.Errorf("a branch of %d kids, of height %d, but at %d of %d: %t", size, x+1, odd, y+1, ok)
					}
				}
			}
		}
	}
}

// P9.1: kids whose keys overlap, touch, contain each other, or stand in another order.
func TestBranchOrder(t *testing.T) {
	for _, c := range []struct {
		first, second string
		want          bool
	}{
		{"ab", "cd", true}, {"ab", "xyz", true}, {"a", "b", true}, {"abcd", "efgh", true}, {"abcd", "e", true}, {"a", "bcde", true},
		{"ab", "bc", false}, {"ac", "bd", false}, {"a", "a", false}, {"ab", "ab", false}, {"ab", "abc", false}, {"ab", "b", false},
		{"b", "bc", false}, {"ad", "bc", false}, {"bc", "ad", false}, {"cd", "ab", false}, {"bc", "ab", false}, {"b", "a", false}, {"bcd", "a", false},
	} {
		first, second := leaf(t, c.first), leaf(t, c.second)
		before, after := leaf(t, "AB"), leaf(t, "~")
		for _, kids := range [][]made{
			{first, second}, {before, first, second}, {first, second, after}, {before, first, second, after},
			{leaf(t, "!"), leaf(t, "#"), leaf(t, "$"), before, first, second},
		} {
			if _, ok := tryBranch(t, kids); ok != c.want {
				t.Errorf("a branch of %d kids, with the leaves %s and %s: %t", len(kids), c.first, c.second, ok)
			}
		}
		if _, ok := tryBranch(t, []made{branch(t, before, first), branch(t, second, after)}); ok != c.want {
			t.Errorf("a branch of branches, with the leaves %s and %s in the middle: %t", c.first, c.second, ok)
		}
	}
	// The keys are compared by bytes, and the greatest with the least, not the least ones with each other.
	short, long := leaf(t, "a"), made{}
	for _, key := range []string{"a\x00", "aa", "é", "\xff"} {
		long, _ = tryLeaf(t, list(key))
		if _, ok := tryBranch(t, []made{short, long}); !ok {
			t.Errorf("a branch of the leaves a and %q is taken as not valid", key)
		}
		if _, ok := tryBranch(t, []made{long, short}); ok {
			t.Errorf("a branch of the leaves %q and a is taken as valid", key)
		}
	}
}

// P9.1: the same kid twice, next to itself and elsewhere.
func TestBranchOfOneKidTwice(t *testing.T) {
	g := &grow{t: t}
	for _, shape := range [][]int{{1}, {2}, {3, 2}} {
		a, b, c := g.tree(shape...), g.tree(shape...), g.tree(shape...)
		for _, kids := range [][]made{{a, a}, {a, a, b}, {a, b, b}, {a, b, a}, {a, b, c, a}, {a, b, c, c}, {a, a, a, a, a, a}} {
			if _, ok := tryBranch(t, kids); ok {
				t.Errorf("%d kids with one twice are taken as valid", len(kids))
			}
		}
		// As a kid of two branches, a node is there once in each.
		x, y := branch(t, a, b), branch(t, a, c)
		if x.n.Kids()[0] != y.n.Kids()[0] || x.n.Kids()[1] == y.n.Kids()[1] {
			t.Error("two branches do not share the one node that they have in common")
		}
		if _, ok := tryBranch(t, []made{x, y}); ok {
			t.Error("two branches that share a node are taken as the kids of one")
		}
	}
}

// P9.1, R2: every list of up to four of some nodes.
func TestAllSmallBranches(t *testing.T) {
	nodes := []made{
		{nil, nil}, {&Node{}, &plan{}}, leaf(t, "a"), leaf(t, "ab"), leaf(t, "b"), leaf(t, "cd"), leaf(t, "bcd"), leaf(t, "efg"),
		branch(t, leaf(t, "a"), leaf(t, "b")), branch(t, leaf(t, "cd"), leaf(t, "efg")), branch(t, leaf(t, "a"), leaf(t, "efg")),
	}
	good, bad := 0, 0
	lists(nodes, 4, func(kids []made) {
		if _, ok := tryBranch(t, kids); ok {
			good++
		} else {
			bad++
		}
	})
	// Two, three or four leaves of a < b, cd, bcd, efg; ab < cd, efg; b < cd, efg; cd, bcd < efg; and one pair of branches.
	if good != 10+6+1+1 || bad < 10000 {
		t.Errorf("%d branches are valid, %d are not", good, bad)
	}
}

// P9.1, P9.2: branches of branches, several levels high.
func TestLevels(t *testing.T) {
	for _, sizes := range [][]int{
		{2}, {2, 2}, {3, 3, 2}, {6, 6, 4}, {3, 3, 3, 2}, {2, 3, 3, 2}, {2, 2, 2, 2, 2}, {4, 5, 6, 3, 4}, {2, 3, 4, 5, 4, 3}, {2, 2, 2, 2, 2, 2, 2, 1},
	} {
		g := &grow{t: t}
		m := g.tree(sizes...)
		least, greatest := m.n.Ends()
		if m.n.Height() != len(sizes) || m.n.Size() != sizes[0] || least != number(1) || greatest != number(g.next) {
			t.Errorf("sizes %v: height %d, size %d, ends %q and %q", sizes, m.n.Height(), m.n.Size(), least, greatest)
		}
	}
}

// P9.1: a node of any height is valid; what is above MaxHeight is refused by a higher layer.
func TestHigh(t *testing.T) {
	var row []*Node
	for i := range 1 << 17 {
		n, err := Leaf([]api.Entry{{Key: number(i)}})
		if err != api.OK {
			t.Fatalf("Leaf: %d", err)
		}
		row = append(row, n)
	}
	for height := 2; len(row) > 1; height++ {
		var above []*Node
		for i := 0; i < len(row); i += 2 {
			n, err := Branch(row[i : i+2])
			if err != api.OK || n.Height() != height || n.Full() {
				t.Fatalf("Branch: height %d, full %t, %d", n.Height(), n.Full(), err)
			}
			above = append(above, n)
		}
		row = above
	}
	least, greatest := row[0].Ends()
	if row[0].Height() != 18 || row[0].Height() <= api.MaxHeight || least != number(0) || greatest != number(1<<17-1) {
		t.Errorf("height %d, ends %q and %q", row[0].Height(), least, greatest)
	}
}

// P9.2: what the node itself has does not count; of those below, each does.
func TestFull(t *testing.T) {
	for _, c := range []struct {
		sizes []int
		want  bool
	}{
		// Nothing is below a leaf.
		{[]int{1}, true}, {[]int{2}, true}, {[]int{4}, true},
		// Leaves of LeafMin - 1, LeafMin and more, below a branch that has too few for a node below another, or enough.
		{[]int{2, 1}, false}, {[]int{2, 2}, true}, {[]int{2, 3}, true}, {[]int{2, 4}, true},
		{[]int{3, 1}, false}, {[]int{3, 2}, true}, {[]int{6, 1}, false}, {[]int{6, 4}, true},
		// Branches of BranchMin - 1, BranchMin and more, below a branch.
		{[]int{2, 2, 2}, false}, {[]int{6, 2, 4}, false}, {[]int{2, 3, 2}, true}, {[]int{3, 3, 2}, true}, {[]int{2, 6, 4}, true},
		// Only one level lacks something, from the top down.
		{[]int{2, 3, 3, 2}, true}, {[]int{3, 2, 3, 2}, false}, {[]int{3, 3, 2, 2}, false}, {[]int{3, 3, 3, 1}, false},
		{[]int{2, 2, 3, 2}, false}, {[]int{2, 3, 2, 2}, false}, {[]int{2, 3, 3, 1}, false}, {[]int{2, 2, 2, 1}, false},
		{[]int{2, 3, 3, 3, 2}, true}, {[]int{2, 3, 3, 3, 1}, false}, {[]int{2, 3, 3, 2, 4}, false},
	} {
		g := &grow{t: t}
		if got := g.tree(c.sizes...).n.Full(); got != c.want {
			t.Errorf("Full of a node of the sizes %v: %t", c.sizes, got)
		}
	}
}

// P9.2: one node alone that lacks something, at every place of a tree, makes every node above it not Full, and no other.
func TestOneLacks(t *testing.T) {
	const leaves = 27
	for odd := range leaves {
		g := &grow{t: t}
		var row []made
		for i := range leaves {
			if i == odd {
				row = append(row, g.leaf(1))
			} else {
				row = append(row, g.leaf(2))
			}
		}
		for width := 3; width <= leaves; width *= 3 {
			var above []made
			for i := 0; i < len(row); i += 3 {
				above = append(above, branch(t, row[i:i+3]...))
			}
			for i, m := range above {
				if m.n.Full() != (i != odd/width) {
					t.Errorf("the leaf %d lacks an entry: Full of the branch %d of %d leaves is %t", odd, i, width, m.n.Full())
				}
			}
			row = above
		}
	}
	for odd := range 6 {
		g := &grow{t: t}
		var row []made
		for i := range 6 {
			if i == odd {
				row = append(row, g.tree(2, 2))
			} else {
				row = append(row, g.tree(3, 2))
			}
			if !row[i].n.Full() {
				t.Errorf("a branch of sufficiently filled leaves is not Full")
			}
		}
		if m := branch(t, row...); m.n.Full() {
			t.Errorf("Full of a branch with a kid of two kids at %d", odd)
		}
	}
}

// P9.3: a nil Node and a zero Node.
func TestNoNode(t *testing.T) {
	var none *Node
	var zero Node
	for _, n := range []*Node{none, &zero, new(Node), {}} {
		for range 2 {
			least, greatest := n.Ends()
			if n.Height() != 0 || n.Size() != 0 || len(n.Entries()) != 0 || len(n.Kids()) != 0 || least != "" || greatest != "" || !n.Full() {
				t.Errorf("height %d, size %d, entries %v, kids %v, ends %q and %q, full %t",
					n.Height(), n.Size(), n.Entries(), n.Kids(), least, greatest, n.Full())
			}
		}
	}
}

// P9.1: nodes that are made alike are different ones, also where they are kids.
func TestIdentity(t *testing.T) {
	a, again, b := leaf(t, "ab").n, leaf(t, "ab").n, leaf(t, "cd").n
	if a == again {
		t.Error("Leaf returned one node twice")
	}
	x, _ := Branch([]*Node{a, b})
	y, _ := Branch([]*Node{a, b})
	z, _ := Branch([]*Node{again, b})
	if x == y || x == z || y == z {
		t.Error("Branch returned one node twice")
	}
	if x.Kids()[0] != a || y.Kids()[0] != a || z.Kids()[0] != again || x.Kids()[1] != b || z.Kids()[1] != b {
		t.Error("Kids are not the nodes of which the branch was made")
	}
}

// R3: lists that the caller changes after they went in.
func TestListsThatWentIn(t *testing.T) {
	l := list("a", "b", "c", "d")
	n, _ := Leaf(l)
	for i := range l {
		l[i] = api.Entry{Key: "x", Value: "y"}
	}
	shows(t, n, &plan{entries: list("a", "b", "c", "d")})

	var kids []made
	for _, keys := range []string{"ab", "cd", "ef", "gh"} {
		kids = append(kids, leaf(t, keys))
	}
	given := nodesOf(kids)
	n, _ = Branch(given)
	for i := range given {
		given[i] = nil
	}
	shows(t, n, &plan{kids: plansOf(kids)})
	if !slices.Equal(n.Kids(), nodesOf(kids)) {
		t.Error("Kids were changed by the list of which the branch was made")
	}
}

// R3: lists that the caller changes, or appends to, after they came out.
func TestListsThatCameOut(t *testing.T) {
	m := leaf(t, "abc")
	out, other := m.n.Entries(), m.n.Entries()
	out[0], out[2] = api.Entry{}, api.Entry{Key: "x"}
	_ = append(out[:1], api.Entry{Key: "y"})
	_ = append(out, api.Entry{Key: "z"})
	if !slices.Equal(other, m.p.entries) {
		t.Errorf("two lists of entries share memory: %v", other)
	}
	shows(t, m.n, m.p)

	kids := []made{leaf(t, "ab"), leaf(t, "cd"), leaf(t, "ef")}
	b := branch(t, kids...)
	nodes, others := b.n.Kids(), b.n.Kids()
	nodes[0], nodes[2] = nil, &Node{}
	_ = append(nodes[:1], nil)
	_ = append(nodes, nil)
	if !slices.Equal(others, nodesOf(kids)) || !slices.Equal(b.n.Kids(), nodesOf(kids)) {
		t.Error("two lists of kids share memory")
	}
	shows(t, b.n, b.p)
}

// R3: arguments are not changed, and what is beyond the length of a list is neither read nor written.
func TestBeyondTheLength(t *testing.T) {
	for size := range 7 {
		room := list("a", "b", "c", "d", "e", "f", "g", "a", "")
		want := slices.Clone(room)
		n, err := Leaf(room[:size])
		if (err == api.OK) != (size >= 1 && size <= 4) || n.Size() > size {
			t.Errorf("Leaf of the first %d entries: %d", size, err)
		}
		if n != nil {
			_ = append(n.Entries(), api.Entry{Key: "x"})
		}
		if !slices.Equal(room, want) {
			t.Errorf("Leaf of the first %d entries changed the list: %v", size, room)
		}

		var nodes []*Node
		for _, keys := range []string{"a", "b", "c", "d", "e", "f", "g"} {
			nodes = append(nodes, leaf(t, keys).n)
		}
		nodes = append(nodes, nil, &Node{}, nodes[0])
		kept := slices.Clone(nodes)
		n, err = Branch(nodes[:size])
		if (err == api.OK) != (size >= 2 && size <= 6) || n.Size() > size {
			t.Errorf("Branch of the first %d kids: %d", size, err)
		}
		if n != nil {
			_ = append(n.Kids(), nil)
		}
		if !slices.Equal(nodes, kept) {
			t.Errorf("Branch of the first %d kids changed the list", size)
		}
	}
}

// P9.1, R3: a node stays as it is, whatever is made of it.
func TestNeverChanges(t *testing.T) {
	a, b, c := leaf(t, "ab"), leaf(t, "c"), leaf(t, "de")
	x := branch(t, a, b, c)
	y := branch(t, branch(t, leaf(t, "A"), leaf(t, "B")), x)
	if n, err := Branch([]*Node{x.n, a.n}); n != nil || err != api.ErrArg {
		t.Errorf("Branch of a branch and a leaf: %v, %d", n, err)
	}
	for _, m := range []made{a, b, c, x, y} {
		shows(t, m.n, m.p)
	}
	if !slices.Equal(x.n.Kids(), []*Node{a.n, b.n, c.n}) || y.n.Kids()[1] != x.n {
		t.Error("the kids of a node changed")
	}
}

// R1: a node that its owner overwrites, even so that it is below itself, lets no call panic or run on.
func TestOverwritten(t *testing.T) {
	a, b := leaf(t, "ab").n, leaf(t, "cd").n
	n, _ := Branch([]*Node{a, b})
	for _, value := range []Node{{}, *n, *b} {
		*a = value
		for _, x := range []*Node{a, b, n} {
			x.Height()
			x.Size()
			x.Entries()
			x.Kids()
			x.Ends()
			x.Full()
		}
		Branch([]*Node{a, b})
		Branch([]*Node{n, a})
		Branch(n.Kids())
	}
}

// build performs what bytes say, two at a time, and checks every node that results: to make a leaf, to make a branch of the nodes that were made last, to exchange two of those, or to go back among the keys.
func build(t *testing.T, b []byte) (good, bad, high int) {
	t.Helper()
	var row []made
	key := 1000
	for ; len(b) >= 2; b = b[2:] {
		x := int(b[1])
		var m made
		ok, tried := false, true
		switch b[0] % 16 {
		case 0:
			row = append(row, []made{{nil, nil}, {&Node{}, &plan{}}}[x%2])
			tried = false
		case 1:
			if i, last := len(row)-1-x%8, len(row)-1; i >= 0 {
				row[i], row[last] = row[last], row[i]
			}
			tried = false
		case 2:
			key -= x
			tried = false
		case 3:
			m, ok = tryLeaf(t, list(number(key+x%3), number(key+x/3%3), number(key+x/9%3)))
		case 4, 5, 6, 7, 8, 9, 10:
			var keys []string
			for range 1 + x%5 {
				key++
				keys = append(keys, number(key))
			}
			m, ok = tryLeaf(t, list(keys...))
		default:
			at := max(len(row)-x%8, 0)
			if m, ok = tryBranch(t, row[at:]); ok && x < 192 {
				row = row[:at]
			}
		}
		switch {
		case ok:
			good++
			high = max(high, m.n.Height())
			row = append(row, m)
		case tried:
			bad++
		}
	}
	return good, bad, high
}

// P9.1, P9.2, R6: seeded random nodes, of which many are not valid, and the same ones once more.
func TestRandomNodes(t *testing.T) {
	rnd := rand.New(rand.NewSource(9))
	good, bad, high := 0, 0, 0
	for range 2000 {
		b := make([]byte, 120)
		rnd.Read(b)
		x, y, z := build(t, b)
		if again, other, same := build(t, b); again != x || other != y || same != z {
			t.Fatalf("the same calls had other results: %d, %d, %d; %d, %d, %d", x, y, z, again, other, same)
		}
		good, bad, high = good+x, bad+y, max(high, z)
	}
	if good < 10000 || bad < 10000 || high < 3 {
		t.Errorf("%d nodes were valid and %d not, the highest of height %d: too few to tell much", good, bad, high)
	}
}

// FuzzAnyNodes makes nodes as bytes say, and one leaf of any keys and values.
func FuzzAnyNodes(f *testing.F) {
	f.Add([]byte{4, 1, 4, 1, 12, 2}, "a", "1", "b", "2")
	f.Add([]byte{4, 0, 4, 1, 12, 2, 4, 2, 4, 3, 12, 2, 12, 2}, "", "", "a", "")
	f.Add([]byte{4, 1, 0, 0, 12, 2, 0, 1, 12, 3, 1, 1, 12, 2}, "b", "", "a", "")
	f.Add([]byte{3, 5, 3, 21, 2, 9, 4, 1, 12, 2}, strings.Repeat("k", 24), strings.Repeat("v", 400), strings.Repeat("k", 25), strings.Repeat("v", 401))
	f.Fuzz(func(t *testing.T, b []byte, first, value, second, other string) {
		build(t, b[:min(len(b), 400)])
		l := []api.Entry{{Key: first, Value: value}, {Key: second, Value: other}}
		x, oneRight := tryLeaf(t, l[:1])
		y, otherRight := tryLeaf(t, l[1:])
		tryLeaf(t, l)
		if oneRight && otherRight {
			tryBranch(t, []made{x, y})
			tryBranch(t, []made{y, x})
		}
	})
}
