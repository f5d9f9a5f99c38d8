package shadow

import (
	"bytes"
	"maps"
	"math"
	"math/rand"
	"reflect"
	"slices"
	"strconv"
	"strings"
	"testing"

	"sapwood/api"
	"sapwood/chain"
	"sapwood/device"
	"sapwood/ledger"
	"sapwood/node"
	"sapwood/page"
	"sapwood/tree"
)

// far are numbers that layer 4 does not allow as the page of a node or of a first piece.
var far = []int{math.MinInt, -1<<32 + 2, -1 << 16, -2, -1, 0, 1, 512, 513, 1 << 16, 1<<16 + 2, 1<<32 + 2, math.MaxInt}

// lengths are those of values that are kept in their leaf, and of such as have one piece or two.
var lengths = []int{0, 1, 23, 24, 25, 26, 239, 240, 241, 242, 399, 400}

// shaped are the trees that most tests plan: the sizes of their leaves, with those of a branch in brackets, and the lengths of their values, one after another, again and again. The last ones are not valid by layer 10, but can be planned as well.
var shaped = []struct {
	text    string
	lengths []int
}{
	{"1", []int{0}}, {"1", []int{24}}, {"1", []int{25}}, {"1", []int{240}}, {"1", []int{241}}, {"1", []int{400}},
	{"2", []int{25, 3}}, {"2", []int{3, 241}}, {"4", []int{1, 2, 3, 4}}, {"4", []int{400, 25, 240, 241}}, {"4", []int{24, 400, 24, 300}}, {"4", []int{0, 400}},
	{"[2 2]", []int{5}}, {"[2 2]", []int{241, 24, 25, 0}}, {"[3 2 4]", []int{0, 25, 241}}, {"[4 4 4 4 4 4]", []int{24, 400, 0, 240, 25}}, {"[4 4 4 4 4 4]", []int{400}},
	{"[[2 2 2] [2 2 2]]", []int{7}}, {"[[2 2 2] [2 2 2]]", []int{300, 1, 240}}, {"[[4 3 2] [2 3 4 2] [2 2 2 2 2 2]]", lengths},
	{"[[[2 2 2] [2 2 2] [2 2 2]] [[2 2 2] [3 3 3] [4 4 4]]]", []int{0, 24, 25, 241}},
	{"[1 1]", []int{0, 241}}, {"[[1 2] [1 1]]", []int{25, 24}}, {"[[[1 1] [1 1]] [[1 1] [1 1]]]", []int{400, 0, 0}},
}

// number is a key that is greater for a greater number.
func number(i int) string {
	digits := strconv.Itoa(i)
	return strings.Repeat("0", max(0, 8-len(digits))) + digits
}

// text is a value of a length, of any bytes, and hardly alike for two seeds or at two places.
func text(length, seed int) string {
	b := make([]byte, length)
	for i := range b {
		b[i] = byte(i*37 + i/16*11 + seed*101)
	}
	return string(b)
}

// reader makes the nodes of a shape, with the keys 10, 20, 30 ..
type reader struct {
	t       *testing.T
	text    string
	lengths []int
	count   int
}

// node reads a node, and the space behind it.
func (r *reader) node() *node.Node {
	r.t.Helper()
	first := r.text[0]
	r.text = r.text[1:]
	var n *node.Node
	var err api.Errno
	if first == '[' {
		var kids []*node.Node
		for r.text[0] != ']' {
			kids = append(kids, r.node())
		}
		r.text = r.text[1:]
		n, err = node.Branch(kids)
	} else {
		n, err = node.Leaf(r.entries(int(first - '0')))
	}
	if err != api.OK {
		r.t.Fatalf("a node of a shape: %d", err)
	}
	r.text = strings.TrimLeft(r.text, " ")
	return n
}

func (r *reader) entries(size int) []api.Entry {
	var l []api.Entry
	for range size {
		length := r.lengths[r.count%len(r.lengths)]
		r.count++
		l = append(l, api.Entry{Key: number(10 * r.count), Value: text(length, r.count)})
	}
	return l
}

// grown makes a tree of a shape.
func grown(t *testing.T, shape string, lengths ...int) *node.Node {
	t.Helper()
	r := &reader{t: t, text: shape, lengths: lengths}
	return r.node()
}

// nodesOf are the nodes, each before those below it.
func nodesOf(n *node.Node) []*node.Node {
	if n == nil {
		return nil
	}
	out := []*node.Node{n}
	for _, kid := range n.Kids() {
		out = append(out, nodesOf(kid)...)
	}
	return out
}

// cut are the pieces of a value, by the words of layer 5.
func cut(value string) []string {
	if len(value) <= 24 {
		return nil
	}
	if len(value) <= 240 {
		return []string{value}
	}
	return []string{value[:240], value[240:]}
}

// answer is what take returns once.
type answer struct {
	page int
	err  api.Errno
}

// upFrom are answers with pages from the first one on.
func upFrom(first, count int) []answer {
	var out []answer
	for i := range count {
		out = append(out, answer{page: first + i})
	}
	return out
}

// taker gives answers, one after another, and then ErrFull; it counts how often it is asked.
type taker struct {
	answers []answer
	asked   int
}

func (a *taker) take() (int, api.Errno) {
	a.asked++
	if a.asked > len(a.answers) {
		return 0, api.ErrFull
	}
	x := a.answers[a.asked-1]
	return x.page, x.err
}

// record is a plan in the chapter's words.
type record struct {
	known, pages map[*node.Node][]int
	from         taker
	err          api.Errno
	at           []int
	contents     []page.Page
}

// next is a page that is taken, unless there was an error.
func (r *record) next() int {
	if r.err != api.OK {
		return 0
	}
	i, err := r.from.take()
	r.err = err
	return i
}

func (r *record) write(at int, content page.Page) {
	r.at = append(r.at, at)
	r.contents = append(r.contents, content)
}

func (r *record) plan(n *node.Node) {
	if n == nil {
		return
	}
	// Only a node that is recorded with pages is one that is known.
	if pages := r.known[n]; len(pages) > 0 {
		r.pages[n] = pages
		for _, kid := range n.Kids() {
			r.plan(kid)
		}
		return
	}
	for _, kid := range n.Kids() {
		r.plan(kid)
	}
	if n.Height() == 1 {
		r.leaf(n)
	} else {
		r.branch(n)
	}
}

func (r *record) leaf(n *node.Node) {
	pieces := []int{}
	for _, e := range n.Entries() {
		for range cut(e.Value) {
			pieces = append(pieces, r.next())
		}
	}
	own := r.next()
	r.pages[n] = append([]int{own}, pieces...)
	content := page.Page{Kind: page.Leaf}
	for _, e := range n.Entries() {
		mine := cut(e.Value)
		if len(mine) == 0 {
			content.Cells = append(content.Cells, page.Cell{Key: e.Key, Value: e.Value})
			continue
		}
		content.Cells = append(content.Cells, page.Cell{Key: e.Key, Size: len(e.Value), Start: pieces[0]})
		if len(mine) == 2 {
			r.write(pieces[1], page.Page{Kind: page.Chain, Piece: mine[1]})
			r.write(pieces[0], page.Page{Kind: page.Chain, Piece: mine[0], Next: pieces[1]})
		} else {
			r.write(pieces[0], page.Page{Kind: page.Chain, Piece: mine[0]})
		}
		pieces = pieces[len(mine):]
	}
	r.write(own, content)
}

func (r *record) branch(n *node.Node) {
	own := r.next()
	r.pages[n] = []int{own}
	content := page.Page{Kind: page.Branch}
	for _, kid := range n.Kids() {
		least := kid
		for least.Height() > 1 {
			least = least.Kids()[0]
		}
		content.Kids = append(content.Kids, page.Kid{Key: least.Entries()[0].Key, Page: r.pages[kid][0]})
	}
	r.write(own, content)
}

// ends says with which error the plan ends.
func (r *record) ends() api.Errno {
	if r.err != api.OK {
		return r.err
	}
	for _, content := range r.contents {
		if !page.Right(content) {
			return api.ErrArg
		}
	}
	return api.OK
}

// setOf makes a set of the pages of nodes.
func setOf(known map[*node.Node][]int) *Pages {
	p := New()
	for n, pages := range known {
		p.Add(n, pages)
	}
	return p
}

// whole are all nodes of a tree with their pages, which are taken from a first one on.
func whole(n *node.Node, first int) map[*node.Node][]int {
	r := &record{pages: map[*node.Node][]int{}, from: taker{answers: upFrom(first, 10000)}}
	r.plan(n)
	return r.pages
}

// count is the number of pages that a tree needs.
func count(n *node.Node) int {
	all := 0
	for _, pages := range whole(n, 2) {
		all += len(pages)
	}
	return all
}

// checkPages compares a set of pages with what it should contain.
func checkPages(t *testing.T, p *Pages, want map[*node.Node][]int) {
	t.Helper()
	var all []int
	for n, pages := range want {
		if !slices.Equal(p.Of(n), pages) {
			t.Fatalf("Of: %v, not %v", p.Of(n), pages)
		}
		for _, i := range pages {
			if !slices.Contains(all, i) {
				all = append(all, i)
			}
		}
	}
	slices.Sort(all)
	if !slices.Equal(p.All(), all) {
		t.Fatalf("All: %v, not %v", p.All(), all)
	}
	if pages := p.Of(nil); len(pages) != 0 {
		t.Fatalf("Of nil: %v", pages)
	}
}

// nothing checks that the results beside an error are none (R2).
func nothing(t *testing.T, writes []Write, pages *Pages, root int) {
	t.Helper()
	if len(writes) != 0 || pages != nil || root != 0 {
		t.Fatalf("beside an error: %d writes, %v, root %d", len(writes), pages, root)
	}
}

// planned plans a tree, compares the plan with the record, and returns it.
func planned(t *testing.T, n *node.Node, known map[*node.Node][]int, answers []answer) ([]Write, *Pages, int, api.Errno) {
	t.Helper()
	r := &record{known: known, pages: map[*node.Node][]int{}, from: taker{answers: answers}}
	r.plan(n)
	set := setOf(known)
	from := &taker{answers: answers}
	writes, pages, root, err := Plan(n, set, from.take)
	if err != r.ends() || from.asked != r.from.asked {
		t.Fatalf("Plan: %d, not %d, with %d pages taken, not %d", err, r.ends(), from.asked, r.from.asked)
	}
	checkPages(t, set, known)
	if err != api.OK {
		nothing(t, writes, pages, root)
		return nil, nil, 0, err
	}
	want := 0
	if n != nil {
		want = r.pages[n][0]
	}
	if root != want {
		t.Fatalf("the root's page is %d, not %d", root, want)
	}
	checkPages(t, pages, r.pages)
	for old := range known {
		if r.pages[old] == nil && len(pages.Of(old)) != 0 {
			t.Fatal("the plan has pages of nodes that are not in the tree")
		}
	}
	checkWrites(t, writes, r)
	return writes, pages, root, err
}

// checkWrites compares the writes, decoded, with those of the record.
func checkWrites(t *testing.T, writes []Write, r *record) {
	t.Helper()
	if len(writes) != len(r.at) {
		t.Fatalf("%d writes, not %d", len(writes), len(r.at))
	}
	for i, w := range writes {
		if w.Page != r.at[i] {
			t.Fatalf("the write %d is to page %d, not %d", i, w.Page, r.at[i])
		}
		content, err := page.Decode(w.B)
		if err != api.OK || !reflect.DeepEqual(content, r.contents[i]) {
			t.Fatalf("the write %d is %v, %d, not %v", i, content, err, r.contents[i])
		}
	}
}

// perform performs writes on a device, each of them to a page of it.
func perform(t *testing.T, d *device.Device, writes []Write) {
	t.Helper()
	for _, w := range writes {
		if err := d.Write(w.Page, w.B); err != api.OK {
			t.Fatalf("a write to page %d: %d", w.Page, err)
		}
	}
}

// loader loads a tree from a device; every page is read once.
type loader struct {
	t    *testing.T
	d    *device.Device
	seen map[int]bool
}

func (l *loader) page(i int) page.Page {
	l.t.Helper()
	if l.seen[i] {
		l.t.Fatalf("page %d belongs to two nodes", i)
	}
	l.seen[i] = true
	b, err := l.d.Read(i)
	if err != api.OK {
		l.t.Fatalf("page %d: %d", i, err)
	}
	p, err := page.Decode(b)
	if err != api.OK {
		l.t.Fatalf("what is on page %d: %d", i, err)
	}
	return p
}

// same loads a node, checks that it is n, and that p has its pages.
func (l *loader) same(n *node.Node, p *Pages, at int) {
	l.t.Helper()
	content := l.page(at)
	pages := []int{at}
	if n.Height() > 1 {
		kids := n.Kids()
		if content.Kind != page.Branch || len(content.Kids) != len(kids) {
			l.t.Fatalf("page %d is no branch of %d kids: %v", at, len(kids), content)
		}
		for i, kid := range kids {
			if least, _ := kid.Ends(); content.Kids[i].Key != least {
				l.t.Fatalf("the least key %q is stored as %q", least, content.Kids[i].Key)
			}
			l.same(kid, p, content.Kids[i].Page)
		}
	} else {
		pages = append(pages, l.entries(n.Entries(), content, at)...)
	}
	if !slices.Equal(p.Of(n), pages) {
		l.t.Fatalf("Of: %v, but the node is on %v", p.Of(n), pages)
	}
}

// entries compares entries with the cells of a leaf, and returns the pages of their pieces.
func (l *loader) entries(list []api.Entry, content page.Page, at int) []int {
	l.t.Helper()
	if content.Kind != page.Leaf || len(content.Cells) != len(list) {
		l.t.Fatalf("page %d is no leaf of %d entries: %v", at, len(list), content)
	}
	var pages []int
	for i, e := range list {
		c := content.Cells[i]
		if len(e.Value) > api.Inline {
			var pieces []string
			for next := c.Start; next != 0; {
				piece := l.page(next)
				pages = append(pages, next)
				pieces = append(pieces, piece.Piece)
				next = piece.Next
			}
			value, err := chain.Join(pieces, c.Size)
			if err != api.OK {
				l.t.Fatalf("a long value from page %d on: %d", c.Start, err)
			}
			c.Value = value
		}
		if c.Key != e.Key || c.Value != e.Value {
			l.t.Fatalf("%q with %q is stored as %q with %q", e.Key, e.Value, c.Key, c.Value)
		}
	}
	return pages
}

// loads checks that a tree is stored on a device, on the pages of a set, and on no others.
func loads(t *testing.T, d *device.Device, n *node.Node, p *Pages, root int) {
	t.Helper()
	l := &loader{t: t, d: d, seen: map[int]bool{}}
	if n == nil {
		if root != 0 || len(p.All()) != 0 {
			t.Fatalf("the root's page of nil is %d", root)
		}
		return
	}
	l.same(n, p, root)
	if seen := slices.Sorted(maps.Keys(l.seen)); !slices.Equal(p.All(), seen) {
		t.Fatalf("All: %v, but the tree is on %v", p.All(), seen)
	}
}

// P14.2: the chapter's example, written out.
func TestExample(t *testing.T) {
	value := strings.Repeat("x", 240) + "y"
	n, _ := node.Leaf([]api.Entry{{Key: "a", Value: value}})
	from := &taker{answers: upFrom(2, 100)}
	writes, pages, root, err := Plan(n, New(), from.take)
	if err != api.OK || root != 4 || from.asked != 3 || len(writes) != 3 {
		t.Fatalf("Plan: %d, root %d, %d pages, %d writes", err, root, from.asked, len(writes))
	}
	for i, want := range []struct {
		at      int
		content page.Page
	}{
		{3, page.Page{Kind: page.Chain, Piece: "y"}},
		{2, page.Page{Kind: page.Chain, Piece: strings.Repeat("x", 240), Next: 3}},
		{4, page.Page{Kind: page.Leaf, Cells: []page.Cell{{Key: "a", Size: 241, Start: 2}}}},
	} {
		b, _ := page.Encode(want.content)
		if writes[i].Page != want.at || !bytes.Equal(writes[i].B, b) {
			t.Errorf("the write %d, to page %d: %v", i, writes[i].Page, writes[i].B)
		}
	}
	if !slices.Equal(pages.Of(n), []int{4, 2, 3}) || !slices.Equal(pages.All(), []int{2, 3, 4}) {
		t.Errorf("Of: %v, All: %v", pages.Of(n), pages.All())
	}
}

// P14.2: a branch, written out: short values, long ones in each leaf, several in one.
func TestBranchWrittenOut(t *testing.T) {
	n := grown(t, "[3 2]", 400, 24, 25, 0, 240)
	leaves := n.Kids()
	first, second := leaves[0].Entries(), leaves[1].Entries()
	writes, pages, root, err := Plan(n, nil, (&taker{answers: []answer{{page: 9}, {page: 5}, {page: 511}, {page: 2}, {page: 7}, {page: 8}, {page: 3}}}).take)
	if err != api.OK || root != 3 || len(writes) != 7 {
		t.Fatalf("Plan: %d, root %d, %d writes", err, root, len(writes))
	}
	for i, want := range []struct {
		at      int
		content page.Page
	}{
		{5, page.Page{Kind: page.Chain, Piece: first[0].Value[240:]}},
		{9, page.Page{Kind: page.Chain, Piece: first[0].Value[:240], Next: 5}},
		{511, page.Page{Kind: page.Chain, Piece: first[2].Value}},
		{2, page.Page{Kind: page.Leaf, Cells: []page.Cell{{Key: number(10), Size: 400, Start: 9}, {Key: number(20), Value: first[1].Value}, {Key: number(30), Size: 25, Start: 511}}}},
		{7, page.Page{Kind: page.Chain, Piece: second[1].Value}},
		{8, page.Page{Kind: page.Leaf, Cells: []page.Cell{{Key: number(40)}, {Key: number(50), Size: 240, Start: 7}}}},
		{3, page.Page{Kind: page.Branch, Kids: []page.Kid{{Key: number(10), Page: 2}, {Key: number(40), Page: 8}}}},
	} {
		b, _ := page.Encode(want.content)
		if writes[i].Page != want.at || !bytes.Equal(writes[i].B, b) {
			t.Errorf("the write %d, to page %d: %v", i, writes[i].Page, writes[i].B)
		}
	}
	checkPages(t, pages, map[*node.Node][]int{n: {3}, leaves[0]: {2, 9, 5, 511}, leaves[1]: {8, 7}})
}

// P14.2: three levels, written out: every node behind its kids, in order.
func TestOrderOfNodes(t *testing.T) {
	n := grown(t, "[[2 2 2] [2 2 2]]", 1)
	writes, pages, root, err := Plan(n, nil, (&taker{answers: upFrom(100, 9)}).take)
	if err != api.OK || root != 108 || len(writes) != 9 {
		t.Fatalf("Plan: %d, root %d, %d writes", err, root, len(writes))
	}
	kids := n.Kids()
	left, right := kids[0].Kids(), kids[1].Kids()
	for i, x := range []*node.Node{left[0], left[1], left[2], kids[0], right[0], right[1], right[2], kids[1], n} {
		content, _ := page.Decode(writes[i].B)
		least, _ := x.Ends()
		var key string
		if content.Kind == page.Leaf {
			key = content.Cells[0].Key
		} else {
			key = content.Kids[0].Key
		}
		if writes[i].Page != 100+i || !slices.Equal(pages.Of(x), []int{100 + i}) || key != least || content.Kind == page.Leaf != (x.Height() == 1) {
			t.Errorf("the write %d, to page %d: %v", i, writes[i].Page, content)
		}
	}
}

// P14.2: nil takes no page, and has none, whatever is known.
func TestNilTree(t *testing.T) {
	other := grown(t, "[2 2]", 30)
	for _, known := range []*Pages{nil, {}, New(), setOf(whole(other, 2))} {
		from := &taker{}
		writes, pages, root, err := Plan(nil, known, from.take)
		if len(writes) != 0 || root != 0 || err != api.OK || from.asked != 0 {
			t.Errorf("Plan: %d writes, root %d, %d, %d pages", len(writes), root, err, from.asked)
		}
		if pages == nil || len(pages.All()) != 0 || len(pages.Of(other)) != 0 {
			t.Errorf("the pages of nil: %v", pages)
		}
	}
}

// P14.2, P14.3: trees of all shapes, with nothing known, are planned as the record says, and are stored by the writes.
func TestTrees(t *testing.T) {
	for _, c := range shaped {
		n := grown(t, c.text, c.lengths...)
		most := count(n)
		for _, first := range []int{2, 3, 512 - most} {
			writes, pages, root, _ := planned(t, n, nil, upFrom(first, most))
			if len(writes) != most {
				t.Fatalf("%s: %d writes, not %d", c.text, len(writes), most)
			}
			d := device.New(first + most)
			perform(t, d, writes)
			loads(t, d, n, pages, root)
		}
	}
}

// P14.2, P14.3: pages that are taken in no order.
func TestPagesInNoOrder(t *testing.T) {
	rnd := rand.New(rand.NewSource(14))
	for _, c := range shaped {
		n := grown(t, c.text, c.lengths...)
		for range 5 {
			answers := upFrom(2, 510)
			rnd.Shuffle(len(answers), func(i, j int) { answers[i], answers[j] = answers[j], answers[i] })
			writes, pages, root, _ := planned(t, n, nil, answers)
			d := device.New(512)
			perform(t, d, writes)
			loads(t, d, n, pages, root)
		}
	}
}

// P14.2, P14.3: every length of a value, alone and beside others.
func TestEveryLength(t *testing.T) {
	for length := range api.MaxValue + 1 {
		for _, n := range []*node.Node{grown(t, "1", length), grown(t, "3", 24, length, 25), grown(t, "[2 2]", length, length, 300)} {
			writes, pages, root, _ := planned(t, n, nil, upFrom(2, 100))
			d := device.New(100)
			perform(t, d, writes)
			loads(t, d, n, pages, root)
		}
	}
	for _, c := range [][2]int{{0, 1}, {24, 1}, {25, 2}, {239, 2}, {240, 2}, {241, 3}, {400, 3}} {
		if writes, _, _, _ := planned(t, grown(t, "1", c[0]), nil, upFrom(2, 9)); len(writes) != c[1] {
			t.Errorf("a value of %d bytes: %d writes, not %d", c[0], len(writes), c[1])
		}
	}
}

// P14.2: leaves with the greatest keys, most entries and all lengths, also where the text contains zero bytes.
func TestLongKeys(t *testing.T) {
	for _, a := range lengths {
		for _, b := range lengths {
			var l []api.Entry
			for i, length := range []int{a, b, 24, 400} {
				l = append(l, api.Entry{Key: strings.Repeat("\xff", 23) + string(rune('a'+i)), Value: strings.Repeat("\x00", length)})
			}
			n, err := node.Leaf(l)
			if err != api.OK {
				t.Fatalf("a leaf of long keys: %d", err)
			}
			writes, pages, root, _ := planned(t, n, nil, upFrom(504, 8))
			d := device.New(512)
			perform(t, d, writes)
			loads(t, d, n, pages, root)
		}
	}
}

// P14.2, P14.3: every set of known nodes of small trees.
func TestEverySetOfKnownNodes(t *testing.T) {
	for _, n := range []*node.Node{grown(t, "1", 0), grown(t, "2", 241, 25), grown(t, "[2 2]", 0), grown(t, "[2 3]", 400, 0, 25), grown(t, "[2 2 2]", 1, 400, 240), grown(t, "[[2 2 2] [2 2 2]]", 300, 2, 25)} {
		nodes := nodesOf(n)
		all := whole(n, 200)
		for bits := range 1 << len(nodes) {
			known := map[*node.Node][]int{}
			need := count(n)
			for i, x := range nodes {
				if bits>>i&1 == 1 {
					known[x] = all[x]
					need -= len(all[x])
				}
			}
			writes, _, _, _ := planned(t, n, known, upFrom(2, need))
			if len(writes) != need {
				t.Fatalf("%d writes, not %d", len(writes), need)
			}
			for _, w := range writes {
				if w.Page >= 200 {
					t.Fatalf("a known page is written again: %d", w.Page)
				}
			}
			if need > 0 {
				planned(t, n, known, upFrom(2, need-1))
			}
		}
	}
}

// P14.2, P14.3: what is known of larger trees: the whole tree, only its root, only a kid, only a leaf with long values, and all but one node.
func TestKnownNodes(t *testing.T) {
	for _, c := range shaped {
		n := grown(t, c.text, c.lengths...)
		most := count(n)
		all := whole(n, 512-most)
		writes, _, root, _ := planned(t, n, all, nil)
		if len(writes) != 0 || root != all[n][0] {
			t.Errorf("%s: %d writes of a known tree, root %d", c.text, len(writes), root)
		}
		for _, x := range nodesOf(n) {
			writes, _, _, _ = planned(t, n, map[*node.Node][]int{x: all[x]}, upFrom(2, most))
			if len(writes) != most-len(all[x]) {
				t.Errorf("%s: %d writes, though a node is known", c.text, len(writes))
			}
			but := maps.Clone(all)
			delete(but, x)
			writes, _, _, _ = planned(t, n, but, upFrom(2, most))
			if len(writes) != len(all[x]) {
				t.Errorf("%s: %d writes, though a single node is not known", c.text, len(writes))
			}
		}
	}
}

// P14.3: a known node is not written again, though it is a root whose kids are not known, or its pages are fewer or other ones than it needs.
func TestKnownPagesAreTakenAsTheyAre(t *testing.T) {
	n := grown(t, "[2 2]", 300)
	kids := n.Kids()
	for _, c := range []struct {
		known  map[*node.Node][]int
		writes []int
	}{
		{map[*node.Node][]int{n: {9}}, []int{3, 2, 5, 4, 6, 8, 7, 10, 9, 11}},
		{map[*node.Node][]int{kids[0]: {9}}, []int{3, 2, 5, 4, 6, 7}},
		{map[*node.Node][]int{kids[1]: {400, 5, 5, 5, 5, 5, 5}}, []int{3, 2, 5, 4, 6, 7}},
		{map[*node.Node][]int{kids[0]: {2}, kids[1]: {2}}, []int{2}},
		{map[*node.Node][]int{n: {-7, 600}, kids[0]: {0}, kids[1]: {1}}, nil},
	} {
		writes, _, _, err := planned(t, n, c.known, upFrom(2, 20))
		var at []int
		for _, w := range writes {
			at = append(at, w.Page)
		}
		if err != api.OK || !slices.Equal(at, c.writes) {
			t.Errorf("with %v known, the writes are to %v, not %v", c.known, at, c.writes)
		}
	}
}

// P14.2: known nodes of another tree do not count, even if it has the same entries.
func TestNodesOfAnotherTree(t *testing.T) {
	n, other := grown(t, "[3 2 4]", 30, 1), grown(t, "[3 2 4]", 30, 1)
	planned(t, n, whole(other, 100), upFrom(2, 50))
	both := whole(other, 100)
	maps.Copy(both, map[*node.Node][]int{n.Kids()[1]: {70, 71}})
	writes, _, _, _ := planned(t, n, both, upFrom(2, 50))
	if want := count(n) - 2; len(writes) != want {
		t.Errorf("%d writes, not %d", len(writes), want)
	}
}

// fresh is the number of nodes of a tree that are not nodes of another one.
func fresh(n, old *node.Node) int {
	all, shared := tree.Nodes(n, old)
	return all - shared
}

// nodesWritten is the number of writes that are nodes.
func nodesWritten(t *testing.T, writes []Write) int {
	t.Helper()
	nodes := 0
	for _, w := range writes {
		content, err := page.Decode(w.B)
		if err != api.OK {
			t.Fatalf("a write: %d", err)
		}
		if content.Kind != page.Chain {
			nodes++
		}
	}
	return nodes
}

// P14.2, P14.3: every single Put and Del in a tree that was planned before: only its new nodes are written, and both trees are stored then.
func TestPlanBehindOneUpdate(t *testing.T) {
	for _, c := range shaped {
		n := grown(t, c.text, c.lengths...)
		d := device.New(512)
		writes, pages, root, _ := planned(t, n, nil, upFrom(2, count(n)))
		perform(t, d, writes)
		d.Sync()
		keys := []string{"", number(9999)}
		for _, e := range tree.Items(n) {
			keys = append(keys, e.Key, e.Key+"5")
		}
		for i, key := range keys {
			put, _ := tree.Put(n, api.Entry{Key: key, Value: text(lengths[i%len(lengths)], i)})
			del, _ := tree.Del(n, key)
			for _, m := range []*node.Node{put, del} {
				writes, after, newRoot, _ := planned(t, m, pages.byNode, upFrom(2+count(n), 200))
				if nodesWritten(t, writes) != fresh(m, n) {
					t.Fatalf("%s: %d nodes are written, not %d", c.text, nodesWritten(t, writes), fresh(m, n))
				}
				perform(t, d, writes)
				loads(t, d, m, after, newRoot)
				loads(t, d, n, pages, root)
				d.Crash(0, 0, 0)
			}
		}
	}
}

// state is a tree that is stored on a device.
type state struct {
	n     *node.Node
	pages *Pages
	root  int
}

// change does some updates, of keys below an end.
func change(t *testing.T, rnd *rand.Rand, n *node.Node, end int) *node.Node {
	t.Helper()
	for range 1 + rnd.Intn(6) {
		key := number(rnd.Intn(end))
		if rnd.Intn(5) < 2 {
			n, _ = tree.Del(n, key)
			continue
		}
		length := rnd.Intn(api.Inline + 2)
		if rnd.Intn(3) == 0 {
			length = rnd.Intn(api.MaxValue + 1)
		}
		m, err := tree.Put(n, api.Entry{Key: key, Value: text(length, rnd.Intn(1000))})
		if err != api.OK {
			t.Fatalf("Put of %q: %d", key, err)
		}
		n = m
	}
	return n
}

// free are the free pages of a ledger, as answers; beyond them it is full.
func free(l *ledger.Ledger) []answer {
	var out []answer
	for i := range api.MaxPages {
		if i > 1 && !l.InUse(i) {
			out = append(out, answer{page: i})
		}
	}
	return out
}

// P14.2, P14.3: many trees, each planned anew behind several changes, on pages of a ledger; the last two are always stored.
func TestManyTrees(t *testing.T) {
	for seed := range 40 {
		rnd := rand.New(rand.NewSource(int64(seed)))
		end := 5 << (seed % 5)
		d, l := device.New(512), ledger.New(512)
		older, newer := state{pages: New()}, state{pages: New()}
		for range 40 {
			n := change(t, rnd, newer.n, end)
			answers := free(l)
			if rnd.Intn(8) == 0 {
				answers = answers[:rnd.Intn(3)]
			}
			writes, _, root, err := planned(t, n, newer.pages.byNode, answers)
			if err != api.OK {
				continue
			}
			again, pages, at, err := Plan(n, newer.pages, l.Take)
			if err != api.OK || at != root || !reflect.DeepEqual(again, writes) || nodesWritten(t, writes) != fresh(n, newer.n) {
				t.Fatalf("seed %d: Plan with a ledger: %d, root %d, not %d", seed, err, at, root)
			}
			if rnd.Intn(6) == 0 {
				l.Abort()
				continue
			}
			perform(t, d, writes)
			d.Sync()
			l.Commit(pages.All())
			older, newer = newer, state{n: n, pages: pages, root: root}
			for _, s := range []state{older, newer} {
				loads(t, d, s.n, s.pages, s.root)
			}
		}
	}
}

// P14.2: pages run out at the first take, at each later one, and just behind the last; also with ErrFull of a ledger.
func TestPagesRunOut(t *testing.T) {
	for _, c := range shaped {
		n := grown(t, c.text, c.lengths...)
		most := count(n)
		for k := range most + 2 {
			writes, _, _, err := planned(t, n, nil, upFrom(2, k))
			if (err == api.OK) != (k >= most) || err != api.OK && err != api.ErrFull || k >= most && len(writes) != most {
				t.Fatalf("%s: Plan with %d pages, of %d: %d", c.text, k, most, err)
			}
			l := ledger.New(2 + k)
			writes, pages, root, again := Plan(n, nil, l.Take)
			if again != err || err == api.OK && (root != 1+most || l.Free() != k-most) {
				t.Fatalf("%s: Plan with a ledger of %d pages: %d", c.text, k, again)
			}
			if err != api.OK {
				nothing(t, writes, pages, root)
			}
		}
	}
}

// P14.2: pages run out where some nodes are known.
func TestPagesRunOutBesideKnownNodes(t *testing.T) {
	n := grown(t, "[[2 2 2] [2 2 2]]", 300, 2, 25)
	all := whole(n, 200)
	for _, x := range nodesOf(n) {
		known := map[*node.Node][]int{x: all[x]}
		need := count(n) - len(all[x])
		for k := range need + 2 {
			if _, _, _, err := planned(t, n, known, upFrom(2, k)); (err == api.OK) != (k >= need) {
				t.Fatalf("Plan with %d pages, of %d: %d", k, need, err)
			}
		}
	}
}

// P14.2: the first error of take is returned, whichever it is, and whatever stands beside it; take is not asked again.
func TestErrorsOfTake(t *testing.T) {
	errs := []api.Errno{-1, 13, 1000, math.MinInt, math.MaxInt}
	for err := api.ErrArg; err <= api.ErrHandle; err++ {
		errs = append(errs, err)
	}
	for _, c := range shaped[:18] {
		n := grown(t, c.text, c.lengths...)
		most := count(n)
		for k := range most {
			for i, want := range errs {
				answers := upFrom(2, most)
				answers[k] = answer{page: (i % 3) * (2 + k), err: want}
				for later := k + 1; later < most; later++ {
					answers[later].err = errs[(i+later)%len(errs)]
				}
				from := &taker{answers: answers}
				writes, pages, root, err := Plan(n, nil, from.take)
				if err != want || from.asked != k+1 {
					t.Fatalf("%s: Plan: %d, not %d, behind %d pages", c.text, err, want, from.asked)
				}
				nothing(t, writes, pages, root)
				planned(t, n, nil, answers)
			}
		}
	}
}

// P14.2: a number that layer 4 does not allow, at each take: ErrArg if a page would contain it.
func TestNumbersThatAreNoPages(t *testing.T) {
	for _, c := range shaped {
		n := grown(t, c.text, c.lengths...)
		most := count(n)
		for k := range most {
			for _, i := range far {
				answers := upFrom(2, most)
				answers[k].page = i
				planned(t, n, nil, answers)
			}
		}
	}
}

// P14.2: such numbers for a first piece, a second one, a leaf, a branch, and the root, whose number is on none of the pages.
func TestNumbersByPlace(t *testing.T) {
	n := grown(t, "[[2 2 2] [2 2 2]]", 300, 2)
	for _, i := range far {
		for _, c := range []struct {
			place string
			at    int
			want  api.Errno
		}{
			{"a first piece", 0, api.ErrArg}, {"a second piece", 1, api.ErrArg}, {"a leaf", 2, api.ErrArg}, {"the third leaf", 8, api.ErrArg}, {"a branch", 9, api.ErrArg},
			{"a first piece in the last leaf", 16, api.ErrArg}, {"the last leaf", 18, api.ErrArg}, {"the last branch", 19, api.ErrArg}, {"the root", 20, api.OK},
		} {
			if i == 0 && c.place == "a second piece" {
				// As Next, 0 is allowed: it says that there is no following piece.
				c.want = api.OK
			}
			answers := upFrom(2, 21)
			answers[c.at].page = i
			from := &taker{answers: answers}
			writes, pages, root, err := Plan(n, nil, from.take)
			if err != c.want || from.asked != 21 {
				t.Fatalf("Plan with %d for %s: %d", i, c.place, err)
			}
			if err != api.OK {
				nothing(t, writes, pages, root)
			} else if c.place == "the root" && (root != i || writes[len(writes)-1].Page != i || pages.Of(n)[0] != i) {
				t.Fatalf("Plan with %d for the root: %d", i, root)
			}
		}
	}
}

// P14.2: an error of take goes before one of layer 4, since it is named first (R1), though the number came before it.
func TestErrorBehindNumberThatIsNoPage(t *testing.T) {
	n := grown(t, "[2 2]", 300, 2)
	for k := range 7 {
		for later := k + 1; later < 7; later++ {
			answers := upFrom(2, 7)
			answers[k].page, answers[later].err = 600, api.ErrLost
			writes, pages, root, err := Plan(n, nil, (&taker{answers: answers}).take)
			if err != api.ErrLost {
				t.Fatalf("Plan with 600 at %d and an error at %d: %d", k, later, err)
			}
			nothing(t, writes, pages, root)
		}
	}
}

// P14.2: a kid that is known on a page that layer 4 does not allow.
func TestKnownNumbersThatAreNoPages(t *testing.T) {
	n := grown(t, "[2 2]", 1)
	for _, i := range far {
		for k := range 2 {
			if _, _, _, err := planned(t, n, map[*node.Node][]int{n.Kids()[k]: {i}}, upFrom(2, 9)); err != api.ErrArg {
				t.Errorf("Plan with a kid on %d: %d", i, err)
			}
		}
	}
}

// P14.1: New is empty, and so is a zero Pages; neither of them has anything of another one (R6).
func TestEmptySets(t *testing.T) {
	n := grown(t, "[2 2]", 1)
	var zero Pages
	for _, p := range []*Pages{New(), {}, &zero, new(Pages)} {
		if p == nil {
			t.Fatal("New: nil")
		}
		checkPages(t, p, nil)
		for _, x := range append(nodesOf(n), nil, &node.Node{}) {
			if len(p.Of(x)) != 0 {
				t.Errorf("Of in an empty set: %v", p.Of(x))
			}
		}
		p.Add(n, []int{7, 5})
		p.Add(n.Kids()[0], []int{6})
		checkPages(t, p, map[*node.Node][]int{n: {7, 5}, n.Kids()[0]: {6}})
		if len(New().All()) != 0 || len(new(Pages).All()) != 0 {
			t.Error("a new set has pages of another one")
		}
	}
}

// P14.2: a zero set, and an empty one, as what is known.
func TestNothingKnown(t *testing.T) {
	for _, c := range shaped {
		n := grown(t, c.text, c.lengths...)
		want, _, wantRoot, _ := planned(t, n, nil, upFrom(2, 300))
		for _, known := range []*Pages{nil, New(), {}} {
			writes, pages, root, err := Plan(n, known, (&taker{answers: upFrom(2, 300)}).take)
			if err != api.OK || root != wantRoot || !reflect.DeepEqual(writes, want) {
				t.Fatalf("%s: Plan: %d, root %d", c.text, err, root)
			}
			checkPages(t, pages, whole(n, 2))
			if len(known.All()) != 0 || len(known.Of(n)) != 0 {
				t.Fatalf("%s: Plan changed what is known", c.text)
			}
		}
	}
}

// P14.4: a nil set in every function.
func TestNilSet(t *testing.T) {
	var p *Pages
	n := grown(t, "[2 2]", 1)
	for _, x := range []*node.Node{nil, {}, n} {
		for _, pages := range [][]int{nil, {}, {2}, {9, 3}} {
			p.Add(x, pages)
			if len(p.Of(x)) != 0 || len(p.All()) != 0 {
				t.Fatalf("Of: %v, All: %v", p.Of(x), p.All())
			}
		}
	}
	if p != nil {
		t.Error("a nil set is nil no longer")
	}
}

// P14.1: Add of nil, of a node twice, of no pages, of a zero Node, and of any numbers.
func TestAdd(t *testing.T) {
	n, m := grown(t, "2", 1), grown(t, "2", 1)
	p := New()
	p.Add(nil, []int{2, 3})
	checkPages(t, p, nil)
	p.Add(n, []int{5, 9, 4})
	checkPages(t, p, map[*node.Node][]int{n: {5, 9, 4}})
	p.Add(nil, []int{7})
	p.Add(m, []int{9, 3})
	checkPages(t, p, map[*node.Node][]int{n: {5, 9, 4}, m: {9, 3}})
	p.Add(n, []int{6})
	checkPages(t, p, map[*node.Node][]int{n: {6}, m: {9, 3}})
	p.Add(n, []int{8, 8, 6})
	checkPages(t, p, map[*node.Node][]int{n: {8, 8, 6}, m: {9, 3}})
	for _, none := range [][]int{nil, {}} {
		p.Add(n, []int{2})
		p.Add(n, none)
		checkPages(t, p, map[*node.Node][]int{n: nil, m: {9, 3}})
	}
	p.Add(m, nil)
	checkPages(t, p, nil)
	zero, other := &node.Node{}, &node.Node{}
	p.Add(zero, far)
	p.Add(other, []int{3})
	checkPages(t, p, map[*node.Node][]int{zero: far, other: {3}})
}

// P14.2: a node that is recorded with no pages is stored nowhere, and so it is written.
func TestKnownWithoutPages(t *testing.T) {
	for _, c := range shaped {
		n := grown(t, c.text, c.lengths...)
		known := map[*node.Node][]int{}
		for _, x := range nodesOf(n) {
			known[x] = []int{}
		}
		writes, _, _, _ := planned(t, n, known, upFrom(2, 300))
		if len(writes) != count(n) {
			t.Errorf("%s: %d writes, not %d", c.text, len(writes), count(n))
		}
	}
}

// P14.1: All is ascending, and has each page once: pages that several nodes share, that one node has twice, in no order.
func TestAll(t *testing.T) {
	nodes := nodesOf(grown(t, "[2 2 2]", 1))
	for _, c := range []struct {
		lists [][]int
		want  []int
	}{
		{[][]int{{2}}, []int{2}},
		{[][]int{{3, 2}}, []int{2, 3}},
		{[][]int{{2}, {2}, {2}, {2}}, []int{2}},
		{[][]int{{9, 2, 9}, {5, 2}, {511, 9}, {3, 3, 3}}, []int{2, 3, 5, 9, 511}},
		{[][]int{{4, 3, 2}, {3, 4, 5}, {}, {10, 1}}, []int{1, 2, 3, 4, 5, 10}},
		{[][]int{nil, {}, nil}, nil},
		{[][]int{{600, -1}, {0, math.MaxInt}, {math.MinInt, 1}}, []int{math.MinInt, -1, 0, 1, 600, math.MaxInt}},
	} {
		p := New()
		known := map[*node.Node][]int{}
		for i, list := range c.lists {
			p.Add(nodes[i], list)
			known[nodes[i]] = list
		}
		// Often, because a map is gone through in any order.
		for range 50 {
			if !slices.Equal(p.All(), c.want) {
				t.Fatalf("All of %v: %v", c.lists, p.All())
			}
		}
		checkPages(t, p, known)
	}
}

// P14.1: many calls of Add, compared with a map.
func TestManyAdds(t *testing.T) {
	nodes := nodesOf(grown(t, "[[2 2 2] [2 2 2] [2 2 2]]", 1))
	for seed := range 50 {
		rnd := rand.New(rand.NewSource(int64(seed)))
		p := New()
		known := map[*node.Node][]int{}
		for range 60 {
			n := nodes[rnd.Intn(len(nodes))]
			var list []int
			for range rnd.Intn(5) {
				list = append(list, rnd.Intn(20+seed*10))
			}
			p.Add(n, list)
			known[n] = list
			checkPages(t, p, known)
		}
	}
}

// R3: a list that Add was told is not changed, nor what is behind it, and not kept.
func TestListsThatGoIn(t *testing.T) {
	nodes := nodesOf(grown(t, "[2 2]", 1))
	p := New()
	room := []int{4, 3, 2, 9, 8}
	p.Add(nodes[0], room[:3])
	p.Add(nodes[1], room[1:4])
	p.Add(nodes[2], room[:0])
	if !slices.Equal(room, []int{4, 3, 2, 9, 8}) {
		t.Errorf("the list, or what is behind it, was changed: %v", room)
	}
	for i := range room {
		room[i] = 77
	}
	checkPages(t, p, map[*node.Node][]int{nodes[0]: {4, 3, 2}, nodes[1]: {3, 2, 9}})
}

// R3: lists that the caller changes, or appends to, after they came out.
func TestListsThatCameOut(t *testing.T) {
	n := grown(t, "[2 2]", 300)
	_, pages, _, _ := planned(t, n, nil, upFrom(2, 50))
	added := setOf(whole(n, 2))
	for _, p := range []*Pages{pages, added} {
		for _, x := range nodesOf(n) {
			of, all := p.Of(x), p.All()
			again, allAgain := p.Of(x), p.All()
			_, _ = append(of, 5, 5, 5), append(all, 5, 5, 5)
			for i := range of {
				of[i] = 99
			}
			for i := range all {
				all[i] = 98
			}
			if !slices.Equal(again, whole(n, 2)[x]) || !slices.Equal(allAgain, p.All()) {
				t.Fatal("two results share memory")
			}
			checkPages(t, p, whole(n, 2))
		}
	}
}

// R3: a plan's pages and what is known have nothing of each other, even if all is known.
func TestPlanAndKnownAreApart(t *testing.T) {
	n := grown(t, "[2 2]", 300)
	kids := n.Kids()
	all := whole(n, 100)
	for _, known := range []map[*node.Node][]int{all, {kids[0]: all[kids[0]]}, {}} {
		set := setOf(known)
		_, pages, _, err := Plan(n, set, (&taker{answers: upFrom(2, 50)}).take)
		if err != api.OK {
			t.Fatalf("Plan: %d", err)
		}
		before := map[*node.Node][]int{}
		for _, x := range nodesOf(n) {
			before[x] = pages.Of(x)
		}
		pages.Add(kids[0], []int{7})
		checkPages(t, set, known)
		pages.Add(kids[0], before[kids[0]])
		set.Add(kids[0], []int{8})
		set.Add(n, nil)
		checkPages(t, pages, before)
	}
}

// R3: what is written is new memory: changing one page's bytes changes no other one, and no later plan.
func TestWritesAreNewMemory(t *testing.T) {
	n := grown(t, "[2 2]", 300, 25)
	want, _, _, _ := planned(t, n, nil, upFrom(2, 50))
	writes, pages, _, _ := planned(t, n, nil, upFrom(2, 50))
	for i := range writes {
		for k := range writes[i].B {
			writes[i].B[k] = 0xee
		}
		_ = append(writes[i].B, 0xee, 0xee, 0xee)
		for later := i + 1; later < len(writes); later++ {
			if !bytes.Equal(writes[later].B, want[later].B) {
				t.Fatalf("the writes %d and %d share memory", i, later)
			}
		}
		writes[i].Page = 400
	}
	_ = append(writes, Write{Page: 1})
	checkPages(t, pages, whole(n, 2))
	if again, _, _, _ := planned(t, n, nil, upFrom(2, 50)); !reflect.DeepEqual(again, want) {
		t.Error("a later plan has changed")
	}
}

// R6: the same calls have the same results.
func TestRepeated(t *testing.T) {
	for _, c := range shaped {
		n, m := grown(t, c.text, c.lengths...), grown(t, c.text, c.lengths...)
		known, other := map[*node.Node][]int{}, map[*node.Node][]int{}
		for i, x := range nodesOf(n) {
			if i%3 == 1 {
				known[x], other[nodesOf(m)[i]] = whole(n, 200)[x], whole(n, 200)[x]
			}
		}
		want, pages, wantRoot, _ := planned(t, n, known, upFrom(2, 150))
		for range 5 {
			writes, again, root, _ := planned(t, m, other, upFrom(2, 150))
			if root != wantRoot || !reflect.DeepEqual(writes, want) || !slices.Equal(again.All(), pages.All()) {
				t.Fatalf("%s: plans of the same tree differ", c.text)
			}
		}
	}
}

// R1: without a function there are no pages; whoever needs none does not miss it.
func TestNilTake(t *testing.T) {
	for _, c := range shaped {
		n := grown(t, c.text, c.lengths...)
		writes, pages, root, err := Plan(n, nil, nil)
		if err != api.ErrFull {
			t.Fatalf("Plan: %d", err)
		}
		nothing(t, writes, pages, root)
		writes, pages, root, err = Plan(n, setOf(whole(n, 9)), nil)
		if err != api.OK || len(writes) != 0 || root != whole(n, 9)[n][0] {
			t.Fatalf("Plan of a known tree: %d, root %d", err, root)
		}
		checkPages(t, pages, whole(n, 9))
	}
	if writes, pages, root, err := Plan(nil, nil, nil); len(writes) != 0 || root != 0 || err != api.OK || len(pages.All()) != 0 {
		t.Errorf("Plan of nil: %d", err)
	}
}

// R1: a function that panics has no page to give.
func TestTakeThatPanics(t *testing.T) {
	n := grown(t, "[2 2]", 300, 2)
	for k := range 8 {
		for _, what := range []any{"no page", api.ErrLost, nil} {
			asked := 0
			writes, pages, root, err := Plan(n, nil, func() (int, api.Errno) {
				if asked == k {
					panic(what)
				}
				asked++
				return 1 + asked, api.OK
			})
			if k >= count(n) {
				if err != api.OK || len(writes) != count(n) {
					t.Errorf("Plan: %d", err)
				}
				continue
			}
			if err != api.ErrFull || asked != k {
				t.Errorf("Plan, when take panics behind %d pages: %d", k, err)
			}
			nothing(t, writes, pages, root)
		}
	}
}

// R1: a function that plans itself, and changes what is known.
func TestTakeThatCallsPlan(t *testing.T) {
	n := grown(t, "[2 2]", 300, 2)
	known := New()
	from := &taker{answers: upFrom(2, 50)}
	writes, pages, root, err := Plan(n, known, func() (int, api.Errno) {
		inner, _, at, err := Plan(n, nil, (&taker{answers: upFrom(100, 7)}).take)
		if len(inner) != 7 || at != 106 || err != api.OK {
			t.Errorf("Plan within Plan: %d writes, %d", len(inner), err)
		}
		known.Add(&node.Node{}, []int{3})
		return from.take()
	})
	if len(writes) != 7 || root != 8 || err != api.OK {
		t.Errorf("Plan: %d writes, root %d, %d", len(writes), root, err)
	}
	checkPages(t, pages, whole(n, 2))
}

// R1: a zero Node is on no page that could be loaded, so it is not planned, unless it is known.
func TestZeroNode(t *testing.T) {
	n := &node.Node{}
	writes, pages, root, err := Plan(n, nil, (&taker{answers: upFrom(2, 9)}).take)
	if err != api.ErrArg {
		t.Errorf("Plan: %d", err)
	}
	nothing(t, writes, pages, root)
	planned(t, n, map[*node.Node][]int{n: {7}}, nil)
}

// R1: a tree above MaxHeight, on pages that are taken again and again.
func TestHigh(t *testing.T) {
	var row []*node.Node
	for i := range 1 << 16 {
		n, _ := node.Leaf([]api.Entry{{Key: number(i)}})
		row = append(row, n)
	}
	for len(row) > 1 {
		var above []*node.Node
		for i := 0; i < len(row); i += 2 {
			n, _ := node.Branch(row[i : i+2])
			above = append(above, n)
		}
		row = above
	}
	asked := 0
	writes, pages, root, err := Plan(row[0], nil, func() (int, api.Errno) {
		asked++
		return 2 + asked%500, api.OK
	})
	if err != api.OK || len(writes) != 1<<17-1 || asked != len(writes) || root != 2+asked%500 || len(pages.All()) != 500 {
		t.Errorf("Plan: %d, %d writes, root %d", err, len(writes), root)
	}
}

// FuzzPlans takes its bytes as updates, and as what is known and what take returns, and compares each plan with the record.
func FuzzPlans(f *testing.F) {
	f.Add([]byte("abcdefghijklmnopqrstuvwxyz"), []byte{}, uint64(0))
	f.Add([]byte("aZbYcXdWeVfUgT\xff\xf0\xf1\x80\x81"), []byte{9, 8, 7, 6, 5, 4, 3, 2}, uint64(0xaaaa))
	f.Add([]byte("\x00\x11\x22\x33\x44\x55\x66\x77"), []byte{2, 255, 3, 254}, uint64(1))
	f.Fuzz(func(t *testing.T, updates, takes []byte, known uint64) {
		var n *node.Node
		old := map[*node.Node][]int{}
		for i, x := range updates[:min(len(updates), 200)] {
			key := string(rune('a' + x%32))
			if x < 200 {
				n, _ = tree.Put(n, api.Entry{Key: key, Value: text(lengths[int(x/32+x)%len(lengths)], i)})
			} else {
				n, _ = tree.Del(n, key)
			}
			if i%20 == 10 {
				planned(t, n, old, upFrom(2, 300))
				old = whole(n, 100)
			}
		}
		for i, x := range nodesOf(n) {
			if known>>(i%64)&1 == 1 {
				old[x] = whole(n, 300)[x]
			}
		}
		planned(t, n, old, answersOf(takes))
	})
}

// answersOf are pages, with a few errors and a few numbers that are no pages, and pages enough behind them.
func answersOf(takes []byte) []answer {
	var out []answer
	for i, x := range takes[:min(len(takes), 300)] {
		switch {
		case x == 255:
			out = append(out, answer{page: i, err: api.Errno(1 + i%12)})
		case x > 250:
			out = append(out, answer{page: far[i%len(far)]})
		default:
			out = append(out, answer{page: 2 + int(x)})
		}
	}
	return append(out, upFrom(2, 500)...)
}
