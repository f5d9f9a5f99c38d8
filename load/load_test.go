package load

import (
	"bytes"
	"maps"
	"math"
	"math/rand"
	"reflect"
	"slices"
	"strconv"
	"strings"
	"testing"

	"sapwood/api"
	"sapwood/device"
	"sapwood/node"
	"sapwood/page"
	"sapwood/shadow"
	"sapwood/sum"
	"sapwood/tree"
)

// far are numbers that are no page of any device.
var far = []int{math.MinInt, math.MinInt + 2, -1<<32 + 2, -1 << 16, -3, -2, -1, 512, 513, 1 << 16, 1<<16 + 2, 1<<32 + 2, math.MaxInt - 1, math.MaxInt}

// lengths are those of values that are kept in their leaf, and of such as have one piece or two.
var lengths = []int{0, 1, 23, 24, 25, 26, 239, 240, 241, 242, 399, 400}

// shaped are the valid trees that most tests load: the sizes of their leaves, with those of a branch in brackets, and the lengths of their values, one after another, again and again.
var shaped = []struct {
	text    string
	lengths []int
}{
	{"1", []int{0}}, {"1", []int{24}}, {"1", []int{25}}, {"1", []int{240}}, {"1", []int{241}}, {"1", []int{400}},
	{"2", []int{25, 3}}, {"2", []int{3, 241}}, {"4", []int{1, 2, 3, 4}}, {"4", []int{400, 25, 240, 241}}, {"4", []int{24, 400, 24, 300}}, {"4", []int{0, 400}},
	{"[2 2]", []int{5}}, {"[2 2]", []int{241, 24, 25, 0}}, {"[3 2 4]", []int{0, 25, 241}}, {"[4 4 4 4 4 4]", []int{24, 400, 0, 240, 25}}, {"[4 4 4 4 4 4]", []int{400}},
	{"[[2 2 2] [2 2 2]]", []int{7}}, {"[[2 2 2] [2 2 2]]", []int{300, 1, 240}}, {"[[4 3 2] [2 3 4 2] [2 2 2 2 2 2]]", lengths},
	{"[[[2 2 2] [2 2 2] [2 2 2]] [[2 2 2] [3 3 3] [4 4 4]]]", []int{0, 24, 25, 241}},
	{"[[[[2 2 2] [2 2 2] [2 2 2]] [[2 2 2] [2 2 2] [2 2 2]] [[2 2 2] [2 2 2] [2 2 2]]] [[[2 2 2] [2 2 2] [2 2 2]] [[2 2 2] [2 2 2] [2 2 2]] [[2 2 2] [2 2 2] [2 2 2]]]]", []int{9, 400}},
}

// number is a key that is greater for a greater number.
func number(i int) string {
	digits := strconv.Itoa(i)
	return strings.Repeat("0", max(0, 8-len(digits))) + digits
}

// text is a value of a length, of any bytes, and hardly alike for two seeds or at two places.
func text(length, seed int) string {
	b := make([]byte, length)
	for i := range b {
		b[i] = byte(i*37 + i/16*11 + seed*101)
	}
	return string(b)
}

// reader makes the nodes of a shape, with the keys 10, 20, 30 ..
type reader struct {
	t       testing.TB
	text    string
	lengths []int
	count   int
}

// node reads a node, and the space behind it.
func (r *reader) node() *node.Node {
	r.t.Helper()
	first := r.text[0]
	r.text = r.text[1:]
	var n *node.Node
	var err api.Errno
	if first == '[' {
		var kids []*node.Node
		for r.text[0] != ']' {
			kids = append(kids, r.node())
		}
		r.text = r.text[1:]
		n, err = node.Branch(kids)
	} else {
		n, err = node.Leaf(r.entries(int(first - '0')))
	}
	if err != api.OK {
		r.t.Fatalf("a node of a shape: %d", err)
	}
	r.text = strings.TrimLeft(r.text, " ")
	return n
}

func (r *reader) entries(size int) []api.Entry {
	var l []api.Entry
	for range size {
		length := r.lengths[r.count%len(r.lengths)]
		r.count++
		l = append(l, api.Entry{Key: number(10 * r.count), Value: text(length, r.count)})
	}
	return l
}

// grown makes a tree of a shape.
func grown(t testing.TB, shape string, lengths ...int) *node.Node {
	t.Helper()
	r := &reader{t: t, text: shape, lengths: lengths}
	return r.node()
}

// nodesOf are the nodes, each before those below it.
func nodesOf(n *node.Node) []*node.Node {
	if n == nil {
		return nil
	}
	out := []*node.Node{n}
	for _, kid := range n.Kids() {
		out = append(out, nodesOf(kid)...)
	}
	return out
}

// lay writes a page.
func lay(t *testing.T, d *device.Device, at int, p page.Page) {
	t.Helper()
	b, err := page.Encode(p)
	if err != api.OK || d.Write(at, b) != api.OK {
		t.Fatalf("%v cannot be laid on page %d: %d", p, at, err)
	}
}

// leafOf is a Leaf page with these keys, each with itself as its value.
func leafOf(keys ...string) page.Page {
	p := page.Page{Kind: page.Leaf}
	for _, key := range keys {
		p.Cells = append(p.Cells, page.Cell{Key: key, Value: key})
	}
	return p
}

// with is a Leaf page with one more cell, whose value is long.
func with(p page.Page, key string, size, start int) page.Page {
	p.Cells = append(slices.Clone(p.Cells), page.Cell{Key: key, Size: size, Start: start})
	return p
}

// branchOf is a Branch page with these kids: keys, each followed by the number of a page.
func branchOf(list ...any) page.Page {
	p := page.Page{Kind: page.Branch}
	for i := 0; i < len(list); i += 2 {
		p.Kids = append(p.Kids, page.Kid{Key: list[i].(string), Page: list[i+1].(int)})
	}
	return p
}

// chainOf is a Chain page.
func chainOf(length, next int) page.Page {
	return page.Page{Kind: page.Chain, Piece: text(length, length), Next: next}
}

// laid are pages on a device of a size.
func laid(t *testing.T, size int, pages map[int]page.Page) *device.Device {
	t.Helper()
	d := device.New(size)
	for _, at := range slices.Sorted(maps.Keys(pages)) {
		lay(t, d, at, pages[at])
	}
	return d
}

// taker takes these pages, one after another.
func taker(pages []int) func() (int, api.Errno) {
	return func() (int, api.Errno) {
		if len(pages) == 0 {
			return 0, api.ErrFull
		}
		i := pages[0]
		pages = pages[1:]
		return i, api.OK
	}
}

// upFrom are the pages from the first one on.
func upFrom(first int) []int {
	var out []int
	for i := first; i < api.MaxPages; i++ {
		out = append(out, i)
	}
	return out
}

// stored plans a tree and writes it to pages of a device that has no more than it needs.
func stored(t testing.TB, n *node.Node, pages []int) (*device.Device, *shadow.Pages, int) {
	t.Helper()
	writes, set, root, err := shadow.Plan(n, nil, taker(pages))
	if err != api.OK {
		t.Fatalf("Plan: %d", err)
	}
	d := device.New(slices.Max(append(set.All(), 1)) + 1)
	for _, w := range writes {
		if err := d.Write(w.Page, w.B); err != api.OK {
			t.Fatalf("a write to page %d: %d", w.Page, err)
		}
	}
	return d, set, root
}

// drawn is a node in a plain reading: its pages, its entries if it is a leaf, how many kids it has, and the key by which the branch above knows it.
type drawn struct {
	known   string
	pages   []int
	entries []api.Entry
	kids    int
}

// reading is a plain reading of a device in the chapter's words: what is on those of its pages that can be decoded.
type reading map[int]page.Page

func readingOf(d *device.Device) reading {
	r := reading{}
	b := d.Bytes()
	for i := range d.Pages() {
		if p, err := page.Decode(b[i*api.PageLen : (i+1)*api.PageLen]); err == api.OK {
			r[i] = p
		}
	}
	return r
}

// value reads a long value, of at most two pieces.
func (r reading) value(start, size int) (string, []int, bool) {
	whole := ""
	var at []int
	for next := start; next != 0; next = r[next].Next {
		if r[next].Kind != page.Chain || len(at) == 2 {
			return "", nil, false
		}
		at = append(at, next)
		whole += r[next].Piece
	}
	switch {
	case size < 25 || size > 400 || len(whole) != size:
		return "", nil, false
	case size <= 240:
		return whole, at, len(at) == 1
	}
	return whole, at, len(at) == 2 && len(r[start].Piece) == 240
}

// leaf reads a leaf.
func (r reading) leaf(at int, node *drawn) bool {
	for _, c := range r[at].Cells {
		value, ok := c.Value, true
		if c.Start != 0 {
			var pieces []int
			value, pieces, ok = r.value(c.Start, c.Size)
			node.pages = append(node.pages, pieces...)
		}
		if !ok {
			return false
		}
		node.entries = append(node.entries, api.Entry{Key: c.Key, Value: value})
	}
	return true
}

// rows reads a tree, row by row from the root on. The nodes of a row are all of one kind, those below the root sufficiently filled.
func (r reading) rows(root int) ([][]drawn, bool) {
	var rows [][]drawn
	row := []page.Kid{{Page: root}}
	reached := map[int]bool{}
	for len(row) > 0 {
		var nodes []drawn
		var below []page.Kid
		for _, kid := range row {
			p := r[kid.Page]
			x := drawn{known: kid.Key, pages: []int{kid.Page}, kids: len(p.Kids)}
			isLeaf := p.Kind == page.Leaf && len(p.Cells) >= 1 && (len(rows) == 0 || len(p.Cells) >= 2)
			isBranch := p.Kind == page.Branch && (len(rows) == 0 || len(p.Kids) >= 3)
			if !isLeaf && !isBranch || p.Kind != r[row[0].Page].Kind || !r.leaf(kid.Page, &x) {
				return nil, false
			}
			for _, i := range x.pages {
				if reached[i] {
					return nil, false
				}
				reached[i] = true
			}
			nodes, below = append(nodes, x), append(below, p.Kids...)
		}
		rows, row = append(rows, nodes), below
	}
	return rows, len(rows) <= 16 && ordered(rows)
}

// ordered reports whether the keys rise from the first entry to the last, and whether every node below the root is known by its least key.
func ordered(rows [][]drawn) bool {
	before := ""
	var least []string
	for _, leaf := range rows[len(rows)-1] {
		least = append(least, leaf.entries[0].Key)
		for _, e := range leaf.entries {
			if e.Key <= before {
				return false
			}
			before = e.Key
		}
	}
	for i := len(rows) - 1; i > 0; i-- {
		for k, x := range rows[i] {
			if x.known != least[k] {
				return false
			}
		}
		var above []string
		for _, x := range rows[i-1] {
			above, least = append(above, least[0]), least[x.kids:]
		}
		least = above
	}
	return true
}

// judge compares what is loaded from a device with a plain reading of it.
type judge struct {
	t        *testing.T
	d        *device.Device
	contents reading
	before   []byte
	waiting  int
}

func judgeOf(t *testing.T, d *device.Device) *judge {
	t.Helper()
	return &judge{t: t, d: d, contents: readingOf(d), before: d.Bytes(), waiting: d.Waiting()}
}

// unchanged checks that nothing was written.
func (j *judge) unchanged() {
	j.t.Helper()
	if j.d.Waiting() != j.waiting || !bytes.Equal(j.d.Bytes(), j.before) {
		j.t.Fatal("the device was changed")
	}
}

// value loads a value, and returns the error.
func (j *judge) value(start, size int) api.Errno {
	j.t.Helper()
	want, wantAt, ok := j.contents.value(start, size)
	wantErr := api.OK
	if !ok {
		want, wantAt, wantErr = "", nil, api.ErrCorrupt
	}
	value, at, err := Value(j.d, start, size)
	if value != want || !slices.Equal(at, wantAt) || err != wantErr {
		j.t.Fatalf("Value of %d bytes from page %d on: %q, %v, %d, not %q, %v, %d", size, start, value, at, err, want, wantAt, wantErr)
	}
	return err
}

// tree loads a tree, and returns it, if it is one.
func (j *judge) tree(root int) (*node.Node, api.Errno) {
	j.t.Helper()
	n, pages, err := Tree(j.d, root)
	if root == 0 {
		if n != nil || len(pages.All()) != 0 || err != api.OK {
			j.t.Fatalf("Tree of page 0: %v, %v, %d", n, pages.All(), err)
		}
		return nil, api.OK
	}
	rows, ok := j.contents.rows(root)
	if !ok {
		if n != nil || pages != nil || err != api.ErrCorrupt {
			j.t.Fatalf("Tree of page %d: %v, %v, %d, though it is corrupt", root, n, pages, err)
		}
		return nil, err
	}
	if err != api.OK {
		j.t.Fatalf("Tree of page %d: %d, though there is one", root, err)
	}
	j.same(n, pages, rows)
	planless(j.t, n, pages, root)
	return n, err
}

// same compares a tree with the rows of a plain reading.
func (j *judge) same(n *node.Node, pages *shadow.Pages, rows [][]drawn) {
	j.t.Helper()
	var all []int
	row := []*node.Node{n}
	for i, want := range rows {
		var below []*node.Node
		if len(row) != len(want) {
			j.t.Fatalf("row %d has %d nodes, not %d", i, len(row), len(want))
		}
		for k, x := range row {
			if x.Height() != len(rows)-i || len(x.Kids()) != want[k].kids || !slices.Equal(x.Entries(), want[k].entries) {
				j.t.Fatalf("node %d of row %d: height %d, %d kids, %v, not %v", k, i, x.Height(), x.Size(), x.Entries(), want[k])
			}
			if !slices.Equal(pages.Of(x), want[k].pages) {
				j.t.Fatalf("node %d of row %d: on %v, not %v", k, i, pages.Of(x), want[k].pages)
			}
			all = append(all, want[k].pages...)
			below = append(below, x.Kids()...)
		}
		row = below
	}
	slices.Sort(all)
	if !slices.Equal(pages.All(), all) {
		j.t.Fatalf("All: %v, not %v", pages.All(), all)
	}
	if !tree.Right(n) || len(pages.Of(nil)) != 0 {
		j.t.Fatal("the tree is not valid, or nil has pages")
	}
}

// planless checks that a tree that was loaded needs no write.
func planless(t *testing.T, n *node.Node, pages *shadow.Pages, root int) {
	t.Helper()
	writes, again, at, err := shadow.Plan(n, pages, taker(nil))
	if len(writes) != 0 || at != root || err != api.OK || !slices.Equal(again.All(), pages.All()) {
		t.Fatalf("Plan of a tree that is stored: %d writes, root %d, %d", len(writes), at, err)
	}
}

// everywhere judges the trees of all pages, and of a few that are none, and counts them by their heights.
func (j *judge) everywhere(heights map[int]int) {
	j.t.Helper()
	for root := -2; root < j.d.Pages()+2; root++ {
		n, _ := j.tree(root)
		heights[n.Height()]++
	}
	j.unchanged()
}

// corrupted checks that a device has no tree on a page.
func corrupted(t *testing.T, d *device.Device, root int) {
	t.Helper()
	j := judgeOf(t, d)
	if _, err := j.tree(root); err != api.ErrCorrupt {
		t.Fatalf("Tree of page %d: %d", root, err)
	}
	j.unchanged()
}

// intact checks that a device has a tree on a page, and returns it.
func intact(t *testing.T, d *device.Device, root int) *node.Node {
	t.Helper()
	j := judgeOf(t, d)
	n, err := j.tree(root)
	if err != api.OK {
		t.Fatalf("Tree of page %d: %d", root, err)
	}
	j.unchanged()
	return n
}

// alike checks that two trees have the same shape and the same entries, and lie on the same pages.
func alike(t *testing.T, n, m *node.Node, of, on *shadow.Pages) {
	t.Helper()
	a, b := nodesOf(n), nodesOf(m)
	if len(a) != len(b) {
		t.Fatalf("%d nodes, not %d", len(a), len(b))
	}
	for i := range a {
		if a[i].Height() != b[i].Height() || a[i].Size() != b[i].Size() || !slices.Equal(a[i].Entries(), b[i].Entries()) {
			t.Fatalf("node %d: %v, not %v", i, a[i], b[i])
		}
		if !slices.Equal(of.Of(a[i]), on.Of(b[i])) {
			t.Fatalf("node %d: on %v, not %v", i, of.Of(a[i]), on.Of(b[i]))
		}
	}
	if !slices.Equal(of.All(), on.All()) {
		t.Fatalf("All: %v, not %v", of.All(), on.All())
	}
}

// P15.2: the chapter's example: a Branch page with itself as a kid, the first one, another one, or every one; as the root and below it.
func TestExample(t *testing.T) {
	for _, p := range []page.Page{
		branchOf("a", 7, "c", 3), branchOf("a", 2, "c", 7), branchOf("a", 7, "c", 7), branchOf("a", 2, "b", 7, "c", 3), branchOf("a", 7, "b", 7, "c", 7, "d", 7, "e", 7, "f", 7),
	} {
		d := laid(t, 9, map[int]page.Page{2: leafOf("a", "b"), 3: leafOf("c", "d"), 7: p, 8: branchOf("a", 7, "c", 3), 6: branchOf("a", 2, "c", 7)})
		for _, root := range []int{7, 8, 6} {
			corrupted(t, d, root)
		}
	}
}

// P15.2: pages that lead back to each other, over two, three and many pages.
func TestCircles(t *testing.T) {
	for size := 2; size < 60; size++ {
		d := device.New(100)
		for i := range size {
			lay(t, d, 2+i, branchOf("a", 2+(i+1)%size, "c", 90+i%2))
		}
		lay(t, d, 90, leafOf("c", "d"))
		lay(t, d, 91, leafOf("c", "d"))
		for i := range size {
			corrupted(t, d, 2+i)
		}
	}
	d := laid(t, 9, map[int]page.Page{
		2: leafOf("a", "b"), 3: leafOf("c", "d"), 4: branchOf("a", 2, "c", 3, "e", 5), 5: branchOf("e", 6, "g", 7), 6: branchOf("e", 4, "f", 5), 7: branchOf("g", 7, "h", 4),
	})
	for _, root := range []int{4, 5, 6, 7} {
		corrupted(t, d, root)
	}
}

// P15.2: leaves as roots, written out.
func TestLeafWrittenOut(t *testing.T) {
	d := laid(t, 9, map[int]page.Page{
		2: leafOf("a"), 3: leafOf("a", "b", "c", "d"), 4: chainOf(30, 0), 5: chainOf(240, 7), 7: chainOf(1, 0),
		6: with(with(leafOf("k"), "l", 30, 4), "m", 241, 5), 8: {Kind: page.Leaf, Cells: []page.Cell{{Key: "x"}}},
	})
	for _, c := range []struct {
		root  int
		want  []api.Entry
		pages []int
	}{
		{2, []api.Entry{{Key: "a", Value: "a"}}, []int{2}},
		{3, []api.Entry{{Key: "a", Value: "a"}, {Key: "b", Value: "b"}, {Key: "c", Value: "c"}, {Key: "d", Value: "d"}}, []int{3}},
		{6, []api.Entry{{Key: "k", Value: "k"}, {Key: "l", Value: text(30, 30)}, {Key: "m", Value: text(240, 240) + text(1, 1)}}, []int{6, 4, 5, 7}},
		{8, []api.Entry{{Key: "x"}}, []int{8}},
	} {
		n, pages, err := Tree(d, c.root)
		if err != api.OK || n.Height() != 1 || !slices.Equal(n.Entries(), c.want) {
			t.Fatalf("Tree of page %d: %d, %v", c.root, err, n)
		}
		if !slices.Equal(pages.Of(n), c.pages) || !slices.Equal(pages.All(), slices.Sorted(slices.Values(c.pages))) {
			t.Fatalf("Of: %v, All: %v, not %v", pages.Of(n), pages.All(), c.pages)
		}
		intact(t, d, c.root)
	}
}

// P15.2: branches, written out, of two levels and of three.
func TestBranchWrittenOut(t *testing.T) {
	d := laid(t, 20, map[int]page.Page{
		2: leafOf("a", "b"), 9: leafOf("c", "d", "e", "f"), 3: leafOf("g", "h"), 19: branchOf("a", 2, "c", 9, "g", 3),
		4: with(leafOf("k"), "l", 25, 5), 5: chainOf(25, 0), 6: leafOf("m", "n"), 7: leafOf("o", "p", "q"), 8: branchOf("k", 4, "m", 6, "o", 7),
		18: branchOf("a", 19, "k", 8),
	})
	n, pages, err := Tree(d, 18)
	if err != api.OK || n.Height() != 3 || n.Size() != 2 {
		t.Fatalf("Tree: %d", err)
	}
	keys := ""
	for _, e := range tree.Items(n) {
		keys += e.Key
	}
	if keys != "abcdefghklmnopq" {
		t.Errorf("the keys %q", keys)
	}
	left, right := n.Kids()[0], n.Kids()[1]
	for _, c := range []struct {
		n    *node.Node
		want []int
	}{
		{n, []int{18}}, {left, []int{19}}, {left.Kids()[0], []int{2}}, {left.Kids()[1], []int{9}}, {left.Kids()[2], []int{3}},
		{right, []int{8}}, {right.Kids()[0], []int{4, 5}}, {right.Kids()[1], []int{6}}, {right.Kids()[2], []int{7}},
	} {
		if !slices.Equal(pages.Of(c.n), c.want) {
			t.Errorf("Of: %v, not %v", pages.Of(c.n), c.want)
		}
	}
	if !slices.Equal(pages.All(), []int{2, 3, 4, 5, 6, 7, 8, 9, 18, 19}) {
		t.Errorf("All: %v", pages.All())
	}
	for _, root := range []int{18, 19, 8} {
		intact(t, d, root)
	}
}

// P15.2: page 0 is no root, whatever is on it, and whether it is there or not.
func TestRootZero(t *testing.T) {
	for _, d := range []*device.Device{nil, {}, device.New(0), device.New(1), device.New(9), laid(t, 3, map[int]page.Page{0: leafOf("a", "b"), 2: leafOf("c")}), laid(t, 3, map[int]page.Page{0: chainOf(30, 0)})} {
		n, pages, err := Tree(d, 0)
		if n != nil || err != api.OK || len(pages.All()) != 0 || len(pages.Of(nil)) != 0 {
			t.Errorf("Tree: %v, %v, %d", n, pages, err)
		}
		planless(t, n, pages, 0)
	}
}

// P15.2, P15.3: trees of all shapes, planned from the first page on, from the last one down, and on pages in no order, are loaded as they were.
func TestPlanned(t *testing.T) {
	rnd := rand.New(rand.NewSource(15))
	for _, c := range shaped {
		n := grown(t, c.text, c.lengths...)
		down, mixed := upFrom(2), upFrom(2)
		slices.Reverse(down)
		rnd.Shuffle(len(mixed), func(i, j int) { mixed[i], mixed[j] = mixed[j], mixed[i] })
		for _, pages := range [][]int{upFrom(2), upFrom(3), down, mixed} {
			d, set, root := stored(t, n, pages)
			loadsAs(t, d, root, n, set)
			d.Sync()
			loadsAs(t, d, root, n, set)
			image, _ := device.Image(d.Bytes())
			loadsAs(t, image, root, n, set)
		}
	}
}

// loadsAs checks that a tree that was stored is loaded as it was.
func loadsAs(t *testing.T, d *device.Device, root int, n *node.Node, set *shadow.Pages) {
	t.Helper()
	intact(t, d, root)
	m, pages, err := Tree(d, root)
	if err != api.OK {
		t.Fatalf("Tree: %d", err)
	}
	alike(t, m, n, pages, set)
}

// P15.3: every length of a value, alone and beside others.
func TestEveryLength(t *testing.T) {
	for length := range api.MaxValue + 1 {
		for _, n := range []*node.Node{grown(t, "1", length), grown(t, "3", 24, length, 25), grown(t, "4", length), grown(t, "[2 2]", length, length, 300)} {
			d, set, root := stored(t, n, upFrom(2))
			loadsAs(t, d, root, n, set)
		}
	}
}

// P15.3: keys of the greatest length, of any bytes, and values of zero bytes.
func TestLongKeys(t *testing.T) {
	for _, start := range []string{strings.Repeat("\x00", 23), strings.Repeat("\xff", 23), "", "é"} {
		for _, length := range lengths {
			var l []api.Entry
			for i, last := range []string{"\x00", "\x01", "\x7f", "\xff"} {
				l = append(l, api.Entry{Key: start + last, Value: strings.Repeat("\x00", (length+i)%401)})
			}
			n, err := node.Leaf(l)
			if err != api.OK {
				t.Fatalf("a leaf: %d", err)
			}
			d, set, root := stored(t, n, upFrom(400))
			loadsAs(t, d, root, n, set)
		}
	}
}

// P15.3: a tree that changes, planned anew again and again behind what is known of it, is loaded each time, also the one before it.
func TestGrowing(t *testing.T) {
	for seed := range 6 {
		rnd := rand.New(rand.NewSource(int64(seed)))
		d := device.New(api.MaxPages)
		var n, last *node.Node
		var set, lastSet *shadow.Pages
		root, lastRoot := 0, 0
		for range 120 {
			for range rnd.Intn(4) {
				key := number(rnd.Intn(40))
				if rnd.Intn(3) > 0 {
					n, _ = tree.Put(n, api.Entry{Key: key, Value: text(lengths[rnd.Intn(len(lengths))], rnd.Intn(100))})
				} else {
					n, _ = tree.Del(n, key)
				}
			}
			used := append(set.All(), lastSet.All()...)
			unused := slices.DeleteFunc(upFrom(2), func(i int) bool { return slices.Contains(used, i) })
			writes, newer, at, err := shadow.Plan(n, set, taker(unused))
			if err != api.OK {
				t.Fatalf("Plan: %d", err)
			}
			for _, w := range writes {
				d.Write(w.Page, w.B)
			}
			last, lastSet, lastRoot, set, root = n, set, root, newer, at
			m, pages, err := Tree(d, root)
			if err != api.OK {
				t.Fatalf("Tree: %d", err)
			}
			alike(t, m, last, pages, set)
			if _, older, err := Tree(d, lastRoot); err != api.OK || !slices.Equal(older.All(), lastSet.All()) {
				t.Fatalf("Tree of what was before: %d", err)
			}
		}
		judgeOf(t, d).everywhere(map[int]int{})
	}
}

// R1: without a device there is no page.
func TestNoDevice(t *testing.T) {
	for _, d := range []*device.Device{nil, {}, device.New(0), device.New(-5)} {
		for _, at := range append([]int{1, 2, 3, 511}, far...) {
			if n, pages, err := Tree(d, at); n != nil || pages != nil || err != api.ErrCorrupt {
				t.Errorf("Tree of page %d: %v, %v, %d", at, n, pages, err)
			}
			for _, size := range []int{-1, 0, 24, 25, 240, 400, 401} {
				if value, pages, err := Value(d, at, size); value != "" || len(pages) != 0 || err != api.ErrCorrupt {
					t.Errorf("Value from page %d on: %q, %v, %d", at, value, pages, err)
				}
			}
		}
	}
}

// P15.1, P15.2: numbers that are no page of the device: below 0, just behind the last one, too great.
func TestNoSuchPage(t *testing.T) {
	for size := 1; size <= api.MaxPages; size += 73 {
		d := device.New(size)
		for i := range size {
			if i%2 == 0 {
				lay(t, d, i, leafOf("a", "b"))
			} else {
				lay(t, d, i, chainOf(100, 0))
			}
		}
		j := judgeOf(t, d)
		for _, at := range append([]int{size, size + 1, 2 * size, -size, 1<<32 + size - 1, 1<<16 + size - 1, -1<<32 + size - 1, math.MinInt + size - 1}, far...) {
			if _, err := j.tree(at); err != api.ErrCorrupt {
				t.Errorf("Tree of page %d of %d: %d", at, size, err)
			}
			if err := j.value(at, 100); err != api.ErrCorrupt {
				t.Errorf("Value from page %d of %d on: %d", at, size, err)
			}
		}
		j.everywhere(map[int]int{})
	}
}

// P15.2: a device that has not all pages of the tree.
func TestTooFewPages(t *testing.T) {
	for _, c := range shaped {
		n := grown(t, c.text, c.lengths...)
		d, set, root := stored(t, n, upFrom(2))
		whole := d.Bytes()
		for size := range d.Pages() {
			image, _ := device.Image(whole[:size*api.PageLen])
			corrupted(t, image, root)
		}
		// The root is on the last page, so that in this order all others are there before it.
		pages := upFrom(2)[:len(set.All())]
		slices.Reverse(pages)
		d, _, root = stored(t, n, pages)
		whole = d.Bytes()
		for size := root + 1; size < d.Pages(); size++ {
			image, _ := device.Image(whole[:size*api.PageLen])
			corrupted(t, image, root)
		}
	}
}

// P15.2: the root may be any page but 0, also one on which no plan would put it.
func TestLowRoots(t *testing.T) {
	d := laid(t, 8, map[int]page.Page{0: leafOf("z"), 1: branchOf("a", 2, "c", 3), 2: leafOf("a", "b"), 3: leafOf("c", "d")})
	if n := intact(t, d, 1); n.Height() != 2 {
		t.Errorf("the height %d", n.Height())
	}
	intact(t, d, 2)
	for _, p := range []page.Page{leafOf("x"), with(leafOf("w"), "x", 60, 6)} {
		d = laid(t, 8, map[int]page.Page{1: p, 2: p, 6: chainOf(60, 0)})
		for _, root := range []int{1, 2} {
			if n := intact(t, d, root); n.Size() != len(p.Cells) {
				t.Errorf("%d entries", n.Size())
			}
		}
	}
	corrupted(t, laid(t, 3, map[int]page.Page{1: chainOf(60, 0)}), 1)
	corrupted(t, laid(t, 3, map[int]page.Page{2: chainOf(60, 0)}), 2)
	corrupted(t, device.New(3), 1)
	corrupted(t, device.New(3), 2)
}

// P15.1: a value may start on any page but 0.
func TestLowStarts(t *testing.T) {
	for _, p := range []page.Page{chainOf(60, 0), chainOf(240, 5)} {
		size := 60 + len(p.Piece)/240*240
		d := laid(t, 8, map[int]page.Page{0: p, 1: p, 2: p, 5: chainOf(60, 0)})
		for _, start := range []int{1, 2} {
			if err := judgeOf(t, d).value(start, size); err != api.OK {
				t.Errorf("Value from page %d on: %d", start, err)
			}
		}
		for _, size := range []int{size, 0, 25, -1, 300} {
			if err := judgeOf(t, d).value(0, size); err != api.ErrCorrupt {
				t.Errorf("Value from page 0 on: %d", err)
			}
		}
	}
}

// P15.2: a Chain page in the place of a node, as the root and below it.
func TestChainInPlaceOfNode(t *testing.T) {
	n := grown(t, "[[2 2 2] [2 2 2]]", 300, 1)
	for _, x := range nodesOf(n) {
		for _, p := range []page.Page{chainOf(1, 0), chainOf(240, 2), chainOf(100, 511)} {
			d, set, root := stored(t, n, upFrom(2))
			lay(t, d, set.Of(x)[0], p)
			corrupted(t, d, root)
		}
	}
}

// P15.2: pages of zero bytes, or of others that are no page, in the place of each page.
func TestEmptyPages(t *testing.T) {
	for _, c := range shaped {
		n := grown(t, c.text, c.lengths...)
		d, set, root := stored(t, n, upFrom(2))
		whole := d.Bytes()
		for _, i := range set.All() {
			for _, fill := range []byte{0, 1, 2, 3, 0xff} {
				b := slices.Clone(whole)
				copy(b[i*api.PageLen:], bytes.Repeat([]byte{fill}, api.PageLen))
				image, _ := device.Image(b)
				if m, pages, err := Tree(image, root); m != nil || pages != nil || err != api.ErrCorrupt {
					t.Fatalf("%s: Tree without page %d: %d", c.text, i, err)
				}
			}
		}
	}
	for root := range 9 {
		if root > 0 {
			corrupted(t, device.New(9), root)
		}
	}
}

// P5, P15.2: bits turned within 32 consecutive ones, in each page of a tree, never yield a tree; in other pages they change nothing.
func TestTurnedBits(t *testing.T) {
	rnd := rand.New(rand.NewSource(5))
	n := grown(t, "[2 2]", 241, 3, 25, 24)
	d, set, root := stored(t, n, []int{3, 5, 6, 8, 9, 11})
	whole := d.Bytes()
	for bit := range len(whole) * 8 {
		for _, pattern := range []uint32{1, 1 << 31, math.MaxUint32, 1 | rnd.Uint32()} {
			b := slices.Clone(whole)
			for i := range min(32, len(b)*8-bit) {
				if pattern>>i&1 == 1 {
					b[(bit+i)/8] ^= 1 << ((bit + i) % 8)
				}
			}
			touched := slices.ContainsFunc(set.All(), func(i int) bool {
				return !bytes.Equal(b[i*api.PageLen:(i+1)*api.PageLen], whole[i*api.PageLen:(i+1)*api.PageLen])
			})
			image, _ := device.Image(b)
			m, pages, err := Tree(image, root)
			if touched && (m != nil || pages != nil || err != api.ErrCorrupt) {
				t.Fatalf("Tree with %x turned from bit %d on: %d", pattern, bit, err)
			}
			if !touched {
				alike(t, m, n, pages, set)
			}
		}
	}
}

// P15.2: pages that are torn, over zero bytes, over the same page, and over another one, which may be a part of the tree as well.
func TestTornPages(t *testing.T) {
	n := grown(t, "[2 2]", 241, 3, 25, 24)
	old := grown(t, "[2 2]", 300, 4, 25, 23)
	writes, set, root, _ := shadow.Plan(n, nil, taker(upFrom(2)))
	before, _, _, _ := shadow.Plan(old, nil, taker(upFrom(2)))
	for torn := range writes {
		for part := -1; part <= api.PageLen+1; part++ {
			for _, ground := range [][]shadow.Write{nil, writes, before} {
				d := device.New(20)
				for _, w := range ground {
					d.Write(w.Page, w.B)
				}
				d.Sync()
				for _, w := range writes {
					d.Write(w.Page, w.B)
				}
				d.Crash(math.MaxUint64, torn, part)
				m, _ := judgeOf(t, d).tree(root)
				b, _ := d.Read(writes[torn].Page)
				whole := bytes.Equal(b, writes[torn].B)
				if _, err := page.Decode(b); whole && m == nil || err != api.OK && m != nil {
					t.Fatalf("Tree with write %d torn behind %d bytes: %v", torn, part, m)
				}
				if whole {
					m, pages, _ := Tree(d, root)
					alike(t, m, n, pages, set)
				}
			}
		}
	}
}

// P15.2: any of the writes lost.
func TestLostWrites(t *testing.T) {
	n := grown(t, "[3 2]", 300, 2, 25)
	writes, set, root, _ := shadow.Plan(n, nil, taker(upFrom(2)))
	for keep := range uint64(1) << len(writes) {
		d := device.New(20)
		for _, w := range writes {
			d.Write(w.Page, w.B)
		}
		d.Crash(keep, -1, 0)
		m, pages, err := Tree(d, root)
		if keep == 1<<len(writes)-1 {
			alike(t, m, n, pages, set)
		} else if m != nil || pages != nil || err != api.ErrCorrupt {
			t.Fatalf("Tree with the writes %b: %d", keep, err)
		}
	}
}

// P15.1: values, written out.
func TestValueWrittenOut(t *testing.T) {
	d := laid(t, 12, map[int]page.Page{2: chainOf(25, 0), 3: chainOf(240, 0), 4: chainOf(240, 5), 5: chainOf(1, 0), 6: chainOf(240, 7), 7: chainOf(160, 0), 11: chainOf(240, 2)})
	for _, c := range []struct {
		start, size int
		want        string
		at          []int
	}{
		{2, 25, text(25, 25), []int{2}}, {3, 240, text(240, 240), []int{3}}, {4, 241, text(240, 240) + text(1, 1), []int{4, 5}},
		{6, 400, text(240, 240) + text(160, 160), []int{6, 7}}, {7, 160, text(160, 160), []int{7}}, {11, 265, text(240, 240) + text(25, 25), []int{11, 2}},
	} {
		value, at, err := Value(d, c.start, c.size)
		if value != c.want || !slices.Equal(at, c.at) || err != api.OK {
			t.Errorf("Value of %d bytes from page %d on: %q, %v, %d", c.size, c.start, value, at, err)
		}
	}
}

// P15.1: every start and every size, on a device with chains of all kinds: a piece too few, one too many, too short and too long ones, pieces that are no Chain, chains that come back.
func TestEveryValue(t *testing.T) {
	d := laid(t, 40, map[int]page.Page{
		1: chainOf(240, 2), 2: chainOf(1, 0), 3: chainOf(120, 8), 4: chainOf(240, 0), 5: chainOf(240, 4), 6: chainOf(240, 5),
		7: chainOf(24, 0), 8: chainOf(25, 0), 9: chainOf(25, 8), 10: chainOf(239, 2), 11: chainOf(240, 12), 12: chainOf(160, 0), 13: chainOf(240, 14), 14: chainOf(161, 0),
		15: chainOf(240, 15), 16: chainOf(240, 17), 17: chainOf(100, 16), 18: chainOf(100, 18), 19: chainOf(240, 20), 20: chainOf(240, 21), 21: chainOf(240, 19),
		22: leafOf("a", "b"), 23: branchOf("a", 22, "c", 22), 24: chainOf(240, 22), 25: chainOf(240, 23), 26: chainOf(100, 22), 27: chainOf(100, 23),
		28: chainOf(240, 39), 29: chainOf(240, 40), 30: chainOf(240, 511), 31: chainOf(100, 39), 32: chainOf(100, 40), 33: {Kind: page.Leaf}, 34: chainOf(240, 33),
		35: chainOf(240, 36), 36: chainOf(100, 37), 37: chainOf(60, 0), 38: chainOf(100, 2),
	})
	j := judgeOf(t, d)
	good := map[int]int{1: 241, 4: 240, 8: 25, 11: 400, 12: 160, 14: 161, 37: 60}
	for start := -1; start <= 41; start++ {
		found := 0
		for size := -3; size <= 500; size++ {
			if j.value(start, size) == api.OK {
				found = size
			}
		}
		if found != good[start] {
			t.Errorf("the value from page %d on has %d bytes, not %d", start, found, good[start])
		}
	}
	j.unchanged()
}

// P15.1: sizes that layer 5 refuses, also where the pieces are as long as that.
func TestSizesThatAreNone(t *testing.T) {
	d := device.New(9)
	for _, length := range []int{1, 2, 23, 24} {
		lay(t, d, 2, chainOf(length, 0))
		for _, size := range []int{length, math.MinInt, -length, -1, 0, 24, 25, 401, math.MaxInt, 1<<32 + length, 1<<16 + length} {
			if err := judgeOf(t, d).value(2, size); err != api.ErrCorrupt {
				t.Errorf("Value of %d bytes: %d", size, err)
			}
		}
	}
	lay(t, d, 3, chainOf(240, 4))
	for length := 1; length <= 240; length++ {
		lay(t, d, 4, chainOf(length, 0))
		want := api.OK
		if 240+length > 400 {
			want = api.ErrCorrupt
		}
		if err := judgeOf(t, d).value(3, 240+length); err != want {
			t.Errorf("Value of %d bytes: %d", 240+length, err)
		}
	}
}

// P15.1: chains of many pages, without an end and with one.
func TestLongChains(t *testing.T) {
	for _, count := range []int{1, 2, 3, 4, 10, 511} {
		d := device.New(api.MaxPages)
		for i := range count {
			lay(t, d, i+1, chainOf(240, (i+2)*min(1, (count-1-i))))
		}
		j := judgeOf(t, d)
		for _, size := range []int{240, 400, 480, 240 * count} {
			if err := j.value(1, size); (err == api.OK) != (count == 1 && size == 240) {
				t.Errorf("Value of %d bytes in %d pieces: %d", size, count, err)
			}
		}
		if count > 1 {
			lay(t, d, count, chainOf(240, 2))
			if err := judgeOf(t, d).value(1, 400); err != api.ErrCorrupt {
				t.Errorf("Value of a chain of %d pages without an end: %d", count, err)
			}
		}
	}
}

// P15.2: the size and the start of a long value, when they are not those of its pieces.
func TestWrongCells(t *testing.T) {
	d := laid(t, 20, map[int]page.Page{
		2: chainOf(240, 3), 3: chainOf(60, 0), 4: chainOf(30, 0), 5: leafOf("a"), 6: chainOf(240, 6), 7: chainOf(240, 8), 8: chainOf(240, 9), 9: chainOf(60, 0), 10: chainOf(240, 5), 12: chainOf(240, 11),
	})
	for _, c := range []struct {
		size, start int
		want        api.Errno
	}{
		{300, 2, api.OK}, {30, 4, api.OK}, {60, 3, api.OK}, {300, 8, api.OK},
		{299, 2, api.ErrCorrupt}, {301, 2, api.ErrCorrupt}, {240, 2, api.ErrCorrupt}, {29, 4, api.ErrCorrupt}, {31, 4, api.ErrCorrupt}, {60, 4, api.ErrCorrupt},
		{300, 5, api.ErrCorrupt}, {300, 6, api.ErrCorrupt}, {240, 6, api.ErrCorrupt}, {400, 7, api.ErrCorrupt}, {300, 7, api.ErrCorrupt}, {300, 10, api.ErrCorrupt}, {240, 10, api.ErrCorrupt},
		{300, 11, api.ErrCorrupt}, {300, 12, api.ErrCorrupt}, {25, 19, api.ErrCorrupt}, {25, 20, api.ErrCorrupt}, {25, 511, api.ErrCorrupt}, {30, 15, api.ErrCorrupt},
	} {
		for _, p := range []page.Page{with(page.Page{Kind: page.Leaf}, "k", c.size, c.start), with(leafOf("a", "b"), "k", c.size, c.start)} {
			lay(t, d, 15, p)
			if _, err := judgeOf(t, d).tree(15); err != c.want {
				t.Errorf("Tree with %d bytes from page %d on: %d", c.size, c.start, err)
			}
		}
	}
}

// twice are pages, with page 9 as the root, of which one is reached a second time, or, where it says so, only looks like it.
var twice = []struct {
	what  string
	pages map[int]page.Page
	want  api.Errno
}{
	{"a piece as two values of a leaf", map[int]page.Page{2: chainOf(30, 0), 9: with(with(leafOf("a"), "b", 30, 2), "c", 30, 2)}, api.ErrCorrupt},
	{"two pieces with one end", map[int]page.Page{2: chainOf(240, 4), 3: chainOf(240, 4), 4: chainOf(30, 0), 9: with(with(leafOf("a"), "b", 270, 2), "c", 270, 3)}, api.ErrCorrupt},
	{"the end of a value as one more value", map[int]page.Page{2: chainOf(240, 4), 4: chainOf(30, 0), 9: with(with(leafOf("a"), "b", 270, 2), "c", 30, 4)}, api.ErrCorrupt},
	{"the same before it", map[int]page.Page{2: chainOf(240, 4), 4: chainOf(30, 0), 9: with(with(leafOf("a"), "b", 30, 4), "c", 270, 2)}, api.ErrCorrupt},
	{"pieces that only look alike", map[int]page.Page{2: chainOf(240, 4), 3: chainOf(240, 5), 4: chainOf(30, 0), 5: chainOf(30, 0), 9: with(with(leafOf("a"), "b", 270, 2), "c", 270, 3)}, api.OK},
	{"a leaf as its own piece", map[int]page.Page{9: with(leafOf("a"), "b", 30, 9)}, api.ErrCorrupt},
	{"a leaf as the second piece", map[int]page.Page{2: chainOf(240, 9), 9: with(leafOf("a"), "b", 270, 2)}, api.ErrCorrupt},
	{"a piece in two leaves", map[int]page.Page{2: chainOf(30, 0), 3: with(leafOf("a"), "b", 30, 2), 4: with(leafOf("c"), "d", 30, 2), 9: branchOf("a", 3, "c", 4)}, api.ErrCorrupt},
	{"an end in two leaves", map[int]page.Page{2: chainOf(30, 0), 5: chainOf(240, 2), 6: chainOf(240, 2), 3: with(leafOf("a"), "b", 270, 5), 4: with(leafOf("c"), "d", 270, 6), 9: branchOf("a", 3, "c", 4)}, api.ErrCorrupt},
	{"pieces of two leaves", map[int]page.Page{2: chainOf(30, 0), 7: chainOf(30, 0), 5: chainOf(240, 2), 6: chainOf(240, 7), 3: with(leafOf("a"), "b", 270, 5), 4: with(leafOf("c"), "d", 270, 6), 9: branchOf("a", 3, "c", 4)}, api.OK},
	{"a leaf as two kids", map[int]page.Page{3: leafOf("a", "b"), 9: branchOf("a", 3, "b", 3)}, api.ErrCorrupt},
	{"a leaf as two kids, with another one between", map[int]page.Page{3: leafOf("a", "b"), 4: leafOf("c", "d"), 9: branchOf("a", 3, "c", 4, "e", 3)}, api.ErrCorrupt},
	{"a leaf as a piece of the one before", map[int]page.Page{3: with(leafOf("a"), "b", 30, 4), 4: leafOf("c", "d"), 9: branchOf("a", 3, "c", 4)}, api.ErrCorrupt},
	{"a leaf as a piece of the one behind", map[int]page.Page{3: leafOf("a", "b"), 4: with(leafOf("c"), "d", 30, 3), 9: branchOf("a", 3, "c", 4)}, api.ErrCorrupt},
	{"a piece as a kid", map[int]page.Page{2: chainOf(30, 0), 3: with(leafOf("a"), "b", 30, 2), 9: branchOf("a", 3, "c", 2)}, api.ErrCorrupt},
	{"the root as a piece", map[int]page.Page{3: with(leafOf("a"), "b", 30, 9), 4: leafOf("c", "d"), 9: branchOf("a", 3, "c", 4)}, api.ErrCorrupt},
	{"the root as the second piece", map[int]page.Page{2: chainOf(240, 9), 3: with(leafOf("a"), "b", 270, 2), 4: leafOf("c", "d"), 9: branchOf("a", 3, "c", 4)}, api.ErrCorrupt},
	{"two leaves that only look alike", map[int]page.Page{3: leafOf("a", "b"), 4: leafOf("c", "d"), 9: branchOf("a", 3, "c", 4), 5: leafOf("c", "d"), 6: branchOf("a", 3, "c", 4)}, api.OK},
}

// P15.2: a page that is reached a second time, as a node, as a piece, and as one of each, in one leaf and in two.
func TestReachedTwice(t *testing.T) {
	for _, c := range twice {
		d := laid(t, 12, c.pages)
		if _, err := judgeOf(t, d).tree(9); err != c.want {
			t.Errorf("%s: Tree: %d", c.what, err)
		}
	}
}

// P15.2: in a tree of four levels, each page that leads to another one leads to any page of the tree instead.
func TestReachedTwiceOverLevels(t *testing.T) {
	n := grown(t, "[[[2 2 2] [2 2 2] [2 2 2]] [[2 2 2] [2 2 2] [2 2 2]]]", 0, 300, 0, 25, 0)
	d, set, root := stored(t, n, upFrom(2))
	contents := readingOf(d)
	for _, at := range set.All() {
		p := contents[at]
		for _, other := range set.All() {
			for i := range len(p.Kids) + len(p.Cells) + 1 {
				q := page.Page{Kind: p.Kind, Cells: slices.Clone(p.Cells), Kids: slices.Clone(p.Kids), Piece: p.Piece, Next: p.Next}
				switch {
				case i < len(p.Kids):
					q.Kids[i].Page = other
				case i < len(p.Cells) && p.Cells[i].Size > 0:
					q.Cells[i].Start = other
				case p.Kind == page.Chain:
					q.Next = other
				}
				if reflect.DeepEqual(p, q) {
					continue
				}
				lay(t, d, at, q)
				if m, pages, err := Tree(d, root); m != nil || pages != nil || err != api.ErrCorrupt {
					t.Fatalf("Tree with %v on page %d: %d", q, at, err)
				}
			}
		}
		lay(t, d, at, p)
		d.Sync()
	}
	intact(t, d, root)
}

// P15.2: pages that hold what a page of the tree holds, too, and are reached instead of it: the tree is the same, on other pages.
func TestCopiesOfPages(t *testing.T) {
	n := grown(t, "[[2 2 2] [2 2 2]]", 300, 1)
	d, set, root := stored(t, n, upFrom(2))
	image, _ := device.Image(append(d.Bytes(), d.Bytes()...))
	shift := d.Pages()
	m, pages, err := Tree(image, root+shift)
	if err != api.OK || pages.Of(m)[0] != root+shift {
		t.Fatalf("Tree: %d", err)
	}
	for i, x := range nodesOf(n)[1:] {
		if y := nodesOf(m)[i+1]; !slices.Equal(set.Of(x), pages.Of(y)) || !slices.Equal(x.Entries(), y.Entries()) {
			t.Errorf("node %d is on %v", i, pages.Of(y))
		}
	}
}

// P15.2: keys that a branch has in place of the least key of a kid.
func TestWrongKeys(t *testing.T) {
	for _, shape := range []string{"[2 2]", "[2 2 2]", "[[2 2 2] [2 2 2]]", "[[[2 2 2] [2 2 2] [2 2 2]] [[2 2 2] [2 2 2] [2 2 2]]]"} {
		n := grown(t, shape, 3)
		d, set, root := stored(t, n, upFrom(2))
		contents := readingOf(d)
		for _, at := range set.All() {
			p := contents[at]
			for i, kid := range p.Kids {
				last := len(kid.Key) - 1
				for _, key := range []string{kid.Key[:last], kid.Key + "\x00", kid.Key + "x", kid.Key[:last] + "\x00", kid.Key[:last] + string(kid.Key[last]-1), kid.Key[:last] + string(kid.Key[last]+1), kid.Key[:last] + "5", kid.Key[:last] + "\xff"} {
					q := page.Page{Kind: p.Kind, Kids: slices.Clone(p.Kids)}
					q.Kids[i].Key = key
					if !page.Right(q) {
						continue
					}
					lay(t, d, at, q)
					corrupted(t, d, root)
				}
			}
			lay(t, d, at, p)
			d.Sync()
		}
		intact(t, d, root)
	}
}

// P15.2: a key of a branch that is the least key of another node, or of a leaf that is not the first one below.
func TestKeysOfOthers(t *testing.T) {
	d := laid(t, 20, map[int]page.Page{
		2: leafOf("b", "c"), 3: leafOf("d", "e"), 4: leafOf("f", "g"), 5: leafOf("h", "i"), 6: leafOf("j", "k"), 7: leafOf("l", "m"),
		8: branchOf("b", 2, "d", 3, "f", 4), 9: branchOf("h", 5, "j", 6, "l", 7), 10: branchOf("b", 8, "h", 9),
	})
	intact(t, d, 10)
	for _, p := range []page.Page{
		branchOf("a", 8, "h", 9), branchOf("c", 8, "h", 9), branchOf("d", 8, "h", 9), branchOf("f", 8, "h", 9), branchOf("b", 8, "g", 9), branchOf("b", 8, "i", 9), branchOf("b", 8, "j", 9), branchOf("b", 8, "m", 9), branchOf("b", 9, "h", 8), branchOf("bb", 8, "h", 9), branchOf("b", 8, "h\x00", 9),
	} {
		lay(t, d, 10, p)
		corrupted(t, d, 10)
	}
}

// P15.2: nodes that layer 9 does not allow: leaves without entries, kids of unlike heights, and keys that do not rise from kid to kid.
func TestNodesThatAreNone(t *testing.T) {
	ground := map[int]page.Page{
		2: leafOf("a", "b"), 3: leafOf("c", "d"), 4: leafOf("e", "f"), 5: leafOf("g", "h"), 6: leafOf("i", "j"), 7: leafOf("k", "l"),
		8: branchOf("a", 2, "c", 3, "e", 4), 9: branchOf("g", 5, "i", 6, "k", 7), 10: {Kind: page.Leaf},
		11: leafOf("d", "dd"), 12: leafOf("b", "c"), 13: leafOf("e", "g"), 14: leafOf("c", "z"), 15: leafOf("cc", "cd"), 16: leafOf("a", "e"),
		17: branchOf("a", 2, "c", 3, "e", 13), 18: branchOf("a", 2, "c", 14, "e", 4), 19: branchOf("m", 20, "o", 21, "q", 22), 20: leafOf("m", "n"), 21: leafOf("o", "p"), 22: leafOf("q", "r"),
	}
	for _, c := range []struct {
		what string
		p    page.Page
		want api.Errno
	}{
		{"a tree", branchOf("a", 8, "g", 9, "m", 19), api.OK},
		{"no entries", page.Page{Kind: page.Leaf}, api.ErrCorrupt},
		{"no entries below", branchOf("a", 2, "b", 10), api.ErrCorrupt},
		{"no entries first", branchOf("a", 10, "c", 3), api.ErrCorrupt},
		{"a leaf behind a branch", branchOf("a", 8, "g", 5), api.ErrCorrupt},
		{"a leaf before a branch", branchOf("a", 2, "g", 9), api.ErrCorrupt},
		{"a leaf between branches", branchOf("a", 8, "g", 5, "m", 19), api.ErrCorrupt},
		{"a tree of leaves", branchOf("a", 2, "c", 3, "e", 4, "g", 5, "i", 6, "k", 7), api.OK},
		{"the greatest key as the least of the next", branchOf("a", 2, "b", 12), api.ErrCorrupt},
		{"the same, behind others", branchOf("a", 2, "c", 3, "d", 11), api.ErrCorrupt},
		{"a leaf within another one", branchOf("c", 14, "cc", 15), api.ErrCorrupt},
		{"a leaf that reaches too far", branchOf("a", 16, "c", 3), api.ErrCorrupt},
		{"a branch whose last leaf reaches the next branch", branchOf("a", 17, "g", 9, "m", 19), api.ErrCorrupt},
		{"a branch with a leaf that reaches too far", branchOf("a", 18, "g", 9, "m", 19), api.ErrCorrupt},
	} {
		d := laid(t, 30, ground)
		lay(t, d, 25, c.p)
		if _, err := judgeOf(t, d).tree(25); err != c.want {
			t.Errorf("%s: Tree: %d", c.what, err)
		}
	}
}

// P15.2: trees whose nodes layer 9 allows: those that layer 10 does not, since a node below the root has too few entries or kids, are corrupt, though each of their leaves alone is a tree.
func TestTreesThatAreNot(t *testing.T) {
	for _, c := range []struct {
		shape string
		want  api.Errno
	}{
		{"1", api.OK}, {"[2 2]", api.OK}, {"[2 2 2]", api.OK}, {"[[2 2 2] [2 2 2]]", api.OK},
		{"[1 2]", api.ErrCorrupt}, {"[2 1]", api.ErrCorrupt}, {"[1 1]", api.ErrCorrupt}, {"[4 4 1 4]", api.ErrCorrupt}, {"[1 4 4 4 4 4]", api.ErrCorrupt},
		{"[[2 2] [2 2 2]]", api.ErrCorrupt}, {"[[2 2 2] [2 2]]", api.ErrCorrupt}, {"[[2 2] [2 2]]", api.ErrCorrupt}, {"[[4 4 4] [4 4] [4 4 4]]", api.ErrCorrupt},
		{"[[2 2 1] [2 2 2]]", api.ErrCorrupt}, {"[[2 2 2] [1 2 2]]", api.ErrCorrupt}, {"[[1 1 1] [1 1 1]]", api.ErrCorrupt},
		{"[[[2 2 2] [2 2 2] [2 2 2]] [[2 2 2] [2 2 2]]]", api.ErrCorrupt}, {"[[[2 2 2] [2 2 2] [2 2 2]] [[2 2 2] [2 2 2] [2 2]]]", api.ErrCorrupt},
		{"[[[2 2 2] [2 2 2] [2 2 2]] [[2 2 2] [2 2 2] [2 2 1]]]", api.ErrCorrupt}, {"[[[2 2 2] [2 2 2] [2 2 2]] [[2 2 2] [2 2 2] [2 2 2]]]", api.OK},
	} {
		n := grown(t, c.shape, 0, 25)
		d, set, root := stored(t, n, upFrom(2))
		j := judgeOf(t, d)
		if _, err := j.tree(root); err != c.want {
			t.Errorf("%s: Tree: %d", c.shape, err)
		}
		for _, x := range nodesOf(n) {
			if m, _ := j.tree(set.Of(x)[0]); x.Full() != (m != nil) {
				t.Errorf("%s: a node of height %d, Full %t", c.shape, x.Height(), x.Full())
			}
		}
	}
}

// tall is a tree of a height: every branch has the same number of kids but the root, which has two; every leaf has some entries.
func tall(t *testing.T, height, kids, entries int) *node.Node {
	t.Helper()
	shape := strconv.Itoa(entries)
	for i := 2; i <= height; i++ {
		count := kids
		if i == height {
			count = 2
		}
		shape = "[" + strings.TrimRight(strings.Repeat(shape+" ", count), " ") + "]"
	}
	return grown(t, shape, 0)
}

// P15.2: trees of all heights for which a device has pages, valid ones up to 6, others up to 9.
func TestHeights(t *testing.T) {
	for height := 1; height <= 6; height++ {
		n := tall(t, height, 3, 2)
		d, set, root := stored(t, n, upFrom(2))
		loadsAs(t, d, root, n, set)
		if m := intact(t, d, root); m.Height() != height {
			t.Errorf("the height %d, not %d", m.Height(), height)
		}
	}
	for height := 2; height <= 9; height++ {
		for _, entries := range []int{1, 2} {
			// With page 1, which no plan takes, a tree of height 9 just has pages enough.
			n := tall(t, height, 2, entries)
			writes, _, root, err := shadow.Plan(n, nil, taker(append(upFrom(2), 1)))
			if err != api.OK {
				t.Fatalf("Plan: %d", err)
			}
			d := device.New(api.MaxPages)
			for _, w := range writes {
				d.Write(w.Page, w.B)
			}
			if height == 9 && root != 1 || tree.Right(n) != (height == 2 && entries == 2) {
				t.Fatalf("the tree of height %d is not what it should be", height)
			}
			j := judgeOf(t, d)
			if m, err := j.tree(root); (err == api.OK) != tree.Right(n) {
				t.Errorf("Tree of height %d: %d, %v", height, err, m)
			}
		}
	}
}

// P15.2, P15.3: branches that lead on and on, down to heights around MaxHeight and as far as the pages reach, with leaves beside them, which makes them no trees; and with one branch below as all kids.
func TestTooHigh(t *testing.T) {
	for _, height := range []int{2, 3, 8, 15, 16, 17, 18, 100, 254, 255} {
		left, right, both := device.New(api.MaxPages), device.New(api.MaxPages), device.New(api.MaxPages)
		lay(t, left, 2, leafOf("0", "00"))
		lay(t, right, 2, leafOf(number(height), "9"))
		lay(t, both, 2, leafOf("a", "b"))
		for i := 2; i <= height; i++ {
			key, leaf := number(i), 2*i
			lay(t, left, leaf, leafOf(key, key+"x"))
			lay(t, left, 2*i-1, branchOf("0", max(2, 2*i-3), key, leaf))
			key = number(height - i + 1)
			lay(t, right, leaf, leafOf(key, key+"x"))
			lay(t, right, 2*i-1, branchOf(key, leaf, number(height-i+2), max(2, 2*i-3)))
			lay(t, both, 2*i-1, branchOf("a", max(2, 2*i-3), "b", max(2, 2*i-3)))
		}
		// The root of a height is the last branch; only two leaves side by side are a tree.
		for _, d := range []*device.Device{left, right} {
			if _, err := judgeOf(t, d).tree(2*height - 1); (err == api.OK) != (height == 2) {
				t.Errorf("Tree of height %d: %d", height, err)
			}
		}
		corrupted(t, both, 2*height-1)
	}
}

// P15.2: the current contents of a page are what is loaded, not what is stored; and nothing of it is written for good.
func TestPendingWrites(t *testing.T) {
	d := laid(t, 9, map[int]page.Page{2: leafOf("a", "b"), 3: leafOf("c", "d"), 4: branchOf("a", 2, "c", 3)})
	d.Sync()
	lay(t, d, 2, leafOf("a", "aa", "b"))
	lay(t, d, 3, leafOf("x"))
	lay(t, d, 3, with(leafOf("c"), "d", 30, 5))
	lay(t, d, 5, chainOf(30, 0))
	if n := intact(t, d, 4); len(tree.Items(n)) != 5 || d.Waiting() != 4 {
		t.Errorf("%d entries, %d pending writes", len(tree.Items(n)), d.Waiting())
	}
	if value, _, err := Value(d, 5, 30); value != text(30, 30) || err != api.OK || d.Waiting() != 4 {
		t.Errorf("Value: %q, %d", value, err)
	}
	d.Crash(0, -1, 0)
	if n := intact(t, d, 4); len(tree.Items(n)) != 4 {
		t.Errorf("%d entries", len(tree.Items(n)))
	}
	corrupted(t, d, 5)
}

// R3: what was loaded stays as it is, whatever is written to the device, and whatever is done with another result.
func TestResultsAreNewMemory(t *testing.T) {
	n := grown(t, "[3 2]", 300, 2, 25)
	d, set, root := stored(t, n, upFrom(2))
	d.Sync()
	m, pages, _ := Tree(d, root)
	again, other, _ := Tree(d, root)
	start := set.Of(n.Kids()[0])[1]
	value, at, _ := Value(d, start, 300)
	_, atAgain, _ := Value(d, start, 300)
	for i, x := range nodesOf(m) {
		if x == nodesOf(again)[i] || x == nodesOf(n)[i] {
			t.Error("two trees share a node")
		}
		if len(other.Of(x)) != 0 {
			t.Error("a set has pages of another tree's node")
		}
		other.Add(x, []int{7})
	}
	for i := range atAgain {
		atAgain[i] = 77
	}
	_ = append(at[:0:cap(at)], 5, 5)
	_, at, _ = Value(d, start, 300)
	for i := range d.Pages() {
		d.Write(i, bytes.Repeat([]byte{0xee}, api.PageLen))
	}
	d.Sync()
	alike(t, m, n, pages, set)
	if value != n.Kids()[0].Entries()[0].Value || !slices.Equal(at, set.Of(n.Kids()[0])[1:3]) {
		t.Errorf("the value %q, on %v", value, at)
	}
}

// R6: the same calls have the same results, also behind others.
func TestRepeated(t *testing.T) {
	for _, c := range shaped {
		n := grown(t, c.text, c.lengths...)
		d, set, root := stored(t, n, upFrom(2))
		for range 5 {
			Tree(d, set.All()[0])
			Tree(d, -1)
			Value(d, root, 25)
			loadsAs(t, d, root, n, set)
		}
	}
}

// P15.3: trees on pages in no order, of which a few things are changed; each page is tried as the root, and as the start of a value.
func TestChangedPages(t *testing.T) {
	heights := map[int]int{}
	for seed := range 300 {
		rnd := rand.New(rand.NewSource(int64(seed)))
		c := shaped[rnd.Intn(len(shaped)-1)]
		n := grown(t, c.text, c.lengths...)
		pages := make([]int, 0)
		for _, i := range rnd.Perm(90) {
			pages = append(pages, 2+i)
		}
		d, set, _ := stored(t, n, pages)
		d.Sync()
		whole := d.Bytes()
		for range 8 {
			d, _ := device.Image(whole)
			for range rnd.Intn(4) {
				change(t, rnd, d, set.All())
			}
			j := judgeOf(t, d)
			j.everywhere(heights)
			for range 40 {
				j.value(rnd.Intn(d.Pages()+2)-1, lengths[rnd.Intn(len(lengths))])
			}
		}
	}
	for height := range 5 {
		if heights[height] < 20 {
			t.Errorf("%d trees of height %d", heights[height], height)
		}
	}
}

// change changes one of the pages.
func change(t *testing.T, rnd *rand.Rand, d *device.Device, pages []int) {
	t.Helper()
	at, other := pages[rnd.Intn(len(pages))], pages[rnd.Intn(len(pages))]
	if rnd.Intn(4) == 0 {
		b, _ := d.Read(other)
		d.Write(at, b)
		return
	}
	p, ok := readingOf(d)[at]
	if !ok {
		return
	}
	switch {
	case len(p.Kids) > 0 && rnd.Intn(2) == 0:
		p.Kids[rnd.Intn(len(p.Kids))].Page = other
	case len(p.Kids) > 0:
		p.Kids[rnd.Intn(len(p.Kids))].Key += "0"
	case len(p.Cells) > 0 && rnd.Intn(2) == 0:
		p.Cells[rnd.Intn(len(p.Cells))] = page.Cell{Key: number(rnd.Intn(100)), Size: 25 + rnd.Intn(376), Start: other}
	case len(p.Cells) > 0:
		p.Cells = p.Cells[rnd.Intn(2):max(1, len(p.Cells)-rnd.Intn(2))]
	case p.Next == 0 || rnd.Intn(2) == 0:
		p.Next = other
	default:
		p.Piece = text(1+rnd.Intn(240), 9)
	}
	if page.Right(p) {
		lay(t, d, at, p)
	}
}

// shelf are the nodes that were laid on a device so far, with what is known of them.
type shelf struct {
	t    *testing.T
	rnd  *rand.Rand
	d    *device.Device
	laid []spot
	long []page.Cell // the sizes and the starts of long values
}

// spot is where a node lies, its height, its least and its greatest key, and all pages below it.
type spot struct {
	at, height      int
	least, greatest string
	below           []int
}

// leaf lays a leaf of a few keys that follow each other.
func (s *shelf) leaf(at int) {
	first, size := s.rnd.Intn(80), []int{1, 2, 2, 2, 3, 3, 3, 4, 4, 4}[s.rnd.Intn(10)]
	p := page.Page{Kind: page.Leaf}
	for i := range size {
		c := page.Cell{Key: number(first + i), Value: "v"}
		if len(s.long) > 0 && s.rnd.Intn(4) == 0 {
			k := s.rnd.Intn(len(s.long))
			c = page.Cell{Key: c.Key, Size: s.long[k].Size, Start: s.long[k].Start}
			if s.rnd.Intn(10) > 0 {
				s.long = slices.Delete(s.long, k, k+1)
			}
		}
		p.Cells = append(p.Cells, c)
	}
	lay(s.t, s.d, at, p)
	s.laid = append(s.laid, spot{at: at, height: 1, least: number(first), greatest: number(first + size - 1), below: []int{at}})
}

// chain lays a piece, alone or before another one.
func (s *shelf) chain(at int) {
	p := page.Page{Kind: page.Chain, Piece: text([]int{1, 24, 25, 100, 160, 240}[s.rnd.Intn(6)], at)}
	size := len(p.Piece)
	if len(s.long) > 0 && s.rnd.Intn(2) == 0 {
		next := s.long[s.rnd.Intn(len(s.long))]
		p.Piece, p.Next, size = text(240, at), next.Start, 240+next.Size
	}
	lay(s.t, s.d, at, p)
	if 24 < size && size <= 400 {
		s.long = append(s.long, page.Cell{Size: size, Start: at})
	}
}

// branch lays a branch of nodes that fit together; a few times of some that do not.
func (s *shelf) branch(at int) {
	height, most, careless := 1+s.rnd.Intn(3), 2+s.rnd.Intn(5), s.rnd.Intn(10) == 0
	slices.SortFunc(s.laid, func(x, y spot) int { return strings.Compare(x.least, y.least) })
	var chosen []spot
	for _, x := range s.laid[s.rnd.Intn(len(s.laid)):] {
		fits := x.height == height && !slices.ContainsFunc(chosen, func(y spot) bool {
			return x.least <= y.greatest || slices.ContainsFunc(x.below, func(i int) bool { return slices.Contains(y.below, i) })
		})
		if (fits || careless && s.rnd.Intn(3) == 0) && len(chosen) < most {
			chosen = append(chosen, x)
		}
	}
	p := page.Page{Kind: page.Branch}
	x := spot{at: at, height: height + 1, below: []int{at}}
	for _, y := range chosen {
		key := y.least
		if s.rnd.Intn(100) == 0 {
			key += "0"
		}
		p.Kids = append(p.Kids, page.Kid{Key: key, Page: y.at})
		x.below = append(x.below, y.below...)
	}
	if page.Right(p) {
		lay(s.t, s.d, at, p)
		x.least, x.greatest = chosen[0].least, chosen[len(chosen)-1].greatest
		s.laid = append(s.laid, x)
	}
}

// P15.2, P15.3: ordinary pages, laid anywhere, each of which is tried as the root, and as the start of values.
func TestPagesAnywhere(t *testing.T) {
	heights, values := map[int]int{}, map[api.Errno]int{}
	for seed := range 400 {
		rnd := rand.New(rand.NewSource(int64(seed)))
		size := 10 + rnd.Intn(90)
		s := &shelf{t: t, rnd: rnd, d: device.New(size)}
		s.leaf(1)
		s.laid = nil
		for i, at := range rnd.Perm(size - 2) {
			switch {
			case rnd.Intn(12) == 0:
				s.chain(2 + at)
			case i < size/2:
				s.leaf(2 + at)
			default:
				s.branch(2 + at)
			}
		}
		s.branch(1)
		j := judgeOf(t, s.d)
		j.everywhere(heights)
		for range 40 {
			values[j.value(rnd.Intn(size), 25+rnd.Intn(376))]++
		}
		for _, c := range s.long {
			values[j.value(c.Start, c.Size)]++
		}
		j.unchanged()
	}
	for height, least := range []int{1000, 1000, 1000, 50} {
		if heights[height] < least {
			t.Errorf("%d trees of height %d", heights[height], height)
		}
	}
	if values[api.OK] < 100 || values[api.ErrCorrupt] < 100 {
		t.Errorf("values: %v", values)
	}
}

// P5, P15.3: pages of arbitrary bytes, as they are, with a valid checksum, and with the beginning of a page.
func TestArbitraryBytes(t *testing.T) {
	heights := map[int]int{}
	for seed := range 300 {
		rnd := rand.New(rand.NewSource(int64(seed)))
		var b []byte
		for range 1 + rnd.Intn(30) {
			body := make([]byte, api.PageLen)
			rnd.Read(body)
			switch rnd.Intn(6) {
			case 0:
				body = sum.Seal(body[:api.PageLen-sum.Size])
			case 1:
				// The greatest number of cells or kids with which such a page begins is small, so that some of them can be read.
				few := append([]byte{byte(1 + rnd.Intn(3)), byte(rnd.Intn(3))}, make([]byte, api.PageLen-sum.Size-2)...)
				copy(few[2:], body[:rnd.Intn(20)])
				body = sum.Seal(few)
			case 2:
				p, _ := page.Encode(leafOf("a", "b"))
				body = p
			case 3:
				p, _ := page.Encode(branchOf("a", 2+rnd.Intn(30), "b", 2+rnd.Intn(30)))
				body = p
			case 4:
				clear(body)
			}
			b = append(b, body...)
		}
		d, _ := device.Image(b[:len(b)-rnd.Intn(2)*rnd.Intn(256)])
		j := judgeOf(t, d)
		j.everywhere(heights)
		for start := range d.Pages() {
			for _, size := range lengths {
				j.value(start, size)
			}
		}
	}
	if heights[0] < 1000 || heights[1] < 100 {
		t.Errorf("trees by height: %v", heights)
	}
}

// A panic that reports an error is told from all others, which go on.
func TestPanics(t *testing.T) {
	if errorOf(nil) != api.OK || errorOf(corrupt{}) != api.ErrCorrupt {
		t.Errorf("errorOf: %d, %d", errorOf(nil), errorOf(corrupt{}))
	}
	for _, thrown := range []any{"corrupt", api.ErrCorrupt, struct{}{}, &corrupt{}} {
		func() {
			defer func() {
				if again := recover(); again != thrown {
					t.Errorf("the panic %v became %v", thrown, again)
				}
			}()
			errorOf(thrown)
		}()
	}
}

// FuzzImages takes its bytes as an image, of which some pages are sealed, and compares what is loaded with a plain reading.
func FuzzImages(f *testing.F) {
	for _, c := range shaped[:len(shaped)-1] {
		d, _, root := stored(f, grown(f, c.text, c.lengths...), upFrom(2))
		f.Add(d.Bytes(), uint64(0), root, 25)
	}
	f.Add([]byte{1, 1, 0, 1, 'a', 0, 0, 0}, uint64(1), 1, 400)
	f.Fuzz(func(t *testing.T, b []byte, sealed uint64, root, size int) {
		d, err := device.Image(b[:min(len(b), api.MaxPages*api.PageLen)])
		if err != api.OK {
			t.Fatalf("Image: %d", err)
		}
		for i := range d.Pages() {
			if sealed>>(i%64)&1 == 1 {
				p, _ := d.Read(i)
				d.Write(i, sum.Seal(p[:api.PageLen-sum.Size]))
			}
		}
		d.Sync()
		j := judgeOf(t, d)
		j.tree(root)
		j.value(root, size)
		j.everywhere(map[int]int{})
		for start := range d.Pages() {
			j.value(start, size)
		}
	})
}
