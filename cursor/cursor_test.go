package cursor

import (
	"math/rand"
	"slices"
	"strconv"
	"strings"
	"testing"

	"sapwood/api"
	"sapwood/node"
	"sapwood/tree"
)

// long is a key of the greatest length.
var long = strings.Repeat("k", api.MaxKey)

// shapes are the trees in which most tests move: their leaves' sizes, with those of a branch in brackets. The shape 0 is nil. The last ones are not valid by layer 10, but have entries as well.
var shapes = []string{
	"0", "1", "2", "4", "[2 2]", "[4 4]", "[3 2 4]", "[4 4 4 4 4 4]",
	"[[2 2 2] [2 2 2]]", "[[4 3 2] [2 3 4 2] [2 2 2 2 2 2]]",
	"[[[2 2 2] [2 2 2] [2 2 2]] [[2 2 2] [3 3 3] [4 4 4]]]",
	"[1 1]", "[[1 2] [1 1]]", "[[[1 1] [1 1]] [[1 1] [1 1]]]",
}

// number is a key that is greater for a greater number.
func number(i int) string {
	digits := strconv.Itoa(i)
	return strings.Repeat("0", max(0, 8-len(digits))) + digits
}

// reader makes the nodes of a shape. Its keys are the numbers 10, 20, 30 .., so that others lie between them.
type reader struct {
	t    *testing.T
	text string
	next int
}

// node reads a node, and the space behind it.
func (r *reader) node() *node.Node {
	r.t.Helper()
	first := r.text[0]
	r.text = r.text[1:]
	var n *node.Node
	var err api.Errno
	if first == '[' {
		var kids []*node.Node
		for r.text[0] != ']' {
			kids = append(kids, r.node())
		}
		r.text = r.text[1:]
		n, err = node.Branch(kids)
	} else {
		n, err = node.Leaf(r.entries(int(first - '0')))
	}
	if err != api.OK {
		r.t.Fatalf("a node of a shape: %d", err)
	}
	r.text = strings.TrimLeft(r.text, " ")
	return n
}

func (r *reader) entries(size int) []api.Entry {
	var l []api.Entry
	for range size {
		r.next += 10
		l = append(l, api.Entry{Key: number(r.next), Value: "v" + strconv.Itoa(r.next)})
	}
	return l
}

// grown makes a tree of a shape.
func grown(t *testing.T, text string) *node.Node {
	t.Helper()
	if text == "0" {
		return nil
	}
	r := &reader{t: t, text: text}
	return r.node()
}

// letters puts entries into nil, whose keys are single letters; the value of a is a!, and so on.
func letters(t *testing.T, keys string) *node.Node {
	t.Helper()
	var n *node.Node
	for _, key := range keys {
		n = put(t, n, string(key), string(key)+"!")
	}
	return n
}

func put(t *testing.T, n *node.Node, key, value string) *node.Node {
	t.Helper()
	n, err := tree.Put(n, api.Entry{Key: key, Value: value})
	if err != api.OK {
		t.Fatalf("Put of %q: %d", key, err)
	}
	return n
}

// nodesOf are the nodes, each before those below it.
func nodesOf(n *node.Node) []*node.Node {
	if n == nil {
		return nil
	}
	out := []*node.Node{n}
	for _, kid := range n.Kids() {
		out = append(out, nodesOf(kid)...)
	}
	return out
}

// nearKeys are the keys of a list, keys just above and below each, and keys that are beyond all of them or in no tree.
func nearKeys(l []api.Entry) []string {
	out := []string{"", "\x00", "\xff", long, long + "k", strings.Repeat("0", 1000), strings.Repeat("\xff", 1000)}
	for _, e := range l {
		out = append(out, e.Key, e.Key+"\x00", e.Key+"\xff", e.Key[:len(e.Key)-1], strings.Repeat(e.Key, 100))
	}
	return out
}

// pair is a cursor, and beside it what the chapter says of it: a place in the sorted list of entries, or -1.
type pair struct {
	t  *testing.T
	c  *Cursor
	l  []api.Entry
	at int
	// done tells the moves so far, for a message.
	done []string
}

// beside makes a new cursor in a tree, and what it is compared with.
func beside(t *testing.T, n *node.Node) *pair {
	t.Helper()
	p := &pair{t: t, c: New(n), l: tree.Items(n), at: -1}
	p.check()
	return p
}

// check compares the entry, which is the same when it is asked for again.
func (p *pair) check() {
	p.t.Helper()
	var want api.Entry
	if p.at >= 0 {
		want = p.l[p.at]
	}
	for range 2 {
		if e, ok := p.c.Entry(); e != want || ok != (p.at >= 0) {
			p.t.Fatalf("Entry after %q: %v, %t, not %v", p.done, e, ok, want)
		}
	}
}

// to says that a move reported what it reported, and is to have led to a place, and to none if that is beyond either end.
func (p *pair) to(name string, got bool, at int) bool {
	p.t.Helper()
	p.done = append(p.done, name)
	p.at = at
	if at < 0 || at >= len(p.l) {
		p.at = -1
	}
	if got != (p.at >= 0) {
		p.t.Fatalf("after %q: %t, but the place is %d", p.done, got, p.at)
	}
	p.check()
	return got
}

func (p *pair) first() bool {
	p.t.Helper()
	return p.to("First", p.c.First(), 0)
}

func (p *pair) last() bool {
	p.t.Helper()
	return p.to("Last", p.c.Last(), len(p.l)-1)
}

func (p *pair) seek(key string) bool {
	p.t.Helper()
	at := 0
	for at < len(p.l) && strings.Compare(p.l[at].Key, key) < 0 {
		at++
	}
	return p.to("Seek "+key, p.c.Seek(key), at)
}

func (p *pair) next() bool {
	p.t.Helper()
	at := p.at + 1
	if p.at < 0 {
		at = -1
	}
	return p.to("Next", p.c.Next(), at)
}

func (p *pair) prev() bool {
	p.t.Helper()
	return p.to("Prev", p.c.Prev(), p.at-1)
}

// lost checks that without a position Next and Prev change nothing, however often they are asked.
func (p *pair) lost() {
	p.t.Helper()
	for range 2 {
		if p.next() || p.next() || p.prev() || p.prev() {
			p.t.Fatalf("after %q, there is a position", p.done)
		}
	}
}

// moves makes moves, one a word: first, last, next, prev, or =key for Seek. It returns the key behind each of them, or - without a position.
func moves(t *testing.T, c *Cursor, text string) string {
	t.Helper()
	var out []string
	for _, word := range strings.Fields(text) {
		moved := false
		switch word {
		case "first":
			moved = c.First()
		case "last":
			moved = c.Last()
		case "next":
			moved = c.Next()
		case "prev":
			moved = c.Prev()
		default:
			moved = c.Seek(word[1:])
		}
		e, ok := c.Entry()
		if moved != ok || !ok && e != (api.Entry{}) || ok && e.Value != e.Key+"!" {
			t.Errorf("%s within %s: %t, but the entry is %v, %t", word, text, moved, e, ok)
		}
		out = append(out, e.Key)
		if !ok {
			out[len(out)-1] = "-"
		}
	}
	return strings.Join(out, "")
}

// P12.1: the chapter's example.
func TestExample(t *testing.T) {
	c := New(letters(t, "ac"))
	if !c.Seek("b") {
		t.Error("Seek b: false")
	}
	if e, ok := c.Entry(); e != (api.Entry{Key: "c", Value: "c!"}) || !ok {
		t.Errorf("behind Seek b: %v, %t", e, ok)
	}
	if !c.Prev() {
		t.Error("Prev: false")
	}
	if e, ok := c.Entry(); e != (api.Entry{Key: "a", Value: "a!"}) || !ok {
		t.Errorf("behind Prev: %v, %t", e, ok)
	}
	if c.Prev() {
		t.Error("the next Prev: true")
	}
	if e, ok := c.Entry(); e != (api.Entry{}) || ok {
		t.Errorf("behind the next Prev: %v, %t", e, ok)
	}
}

// P12.1, P12.2: moves, written out by the key behind each of them, in a tree of several leaves.
func TestWrittenOut(t *testing.T) {
	n := letters(t, "gcaiek")
	for _, c := range []struct{ moves, want string }{
		// The whole way, up and down, and beyond either end.
		{"first next next next next next next next", "acegik--"},
		{"last prev prev prev prev prev prev prev", "kigeca--"},
		// Without a position, from the start on.
		{"next next prev prev", "----"},
		{"prev prev next next", "----"},
		// Next behind Prev, and Prev behind Next.
		{"=e next prev prev next", "egece"},
		{"first next prev next", "acac"},
		{"last prev next prev", "kiki"},
		// Beyond an end there is no way back but by First, Last and Seek.
		{"first prev next prev first", "a---a"},
		{"last next prev next last", "k---k"},
		{"first prev last", "a-k"},
		{"last next first", "k-a"},
		{"last next =f prev", "k-ge"},
		{"=z prev next =z first", "----a"},
		// Keys that are there, keys between, below and above.
		{"=a =c =e =g =i =k", "acegik"},
		{"=b =d =f =h =j", "cegik"},
		{"=A =k0 =z", "a--"},
		{"= next", "ac"},
		{"=k =", "ka"},
		// Seek moves from wherever the cursor stands.
		{"=i =c next =h prev =b", "iceigc"},
		{"last =aa prev prev", "kca-"},
	} {
		if got := moves(t, New(n), c.moves); got != c.want {
			t.Errorf("%s: %s, not %s", c.moves, got, c.want)
		}
	}
}

// P12.1: a new cursor has no position, and Next and Prev do not give it one; nor do they behind either end, or behind a Seek that found nothing. From each of these states the other moves lead on.
func TestWithoutPosition(t *testing.T) {
	for _, text := range shapes {
		n := grown(t, text)
		for name, lose := range map[string]func(p *pair){
			"new":              func(p *pair) {},
			"before the first": func(p *pair) { p.first(); p.prev() },
			"behind the last":  func(p *pair) { p.last(); p.next() },
			"beyond all keys":  func(p *pair) { p.last(); p.seek("\xff") },
			"a long key":       func(p *pair) { p.first(); p.seek(strings.Repeat("\xff", 1000)) },
		} {
			for _, find := range []func(p *pair) bool{
				(*pair).first, (*pair).last,
				func(p *pair) bool { return p.seek("") },
				func(p *pair) bool { return p.seek(number(15)) || p.seek(number(10)) },
			} {
				p := beside(t, n)
				lose(p)
				p.lost()
				if found := find(p); found != (n != nil) {
					t.Errorf("%s, %s: %q: %t", text, name, p.done, found)
				}
				p.next()
				p.prev()
			}
		}
	}
}

// P12.1: Seek at the borders of leaves and of branches, and both moves from where it led, written out by the numbers.
func TestBorders(t *testing.T) {
	n := grown(t, "[[2 3 2] [2 2 2] [4 2 2]]")
	for _, x := range []struct{ key, at, ahead, behind int }{
		// Keys that are there: the first and the last of a leaf, of a branch, and in the middle of a leaf.
		{20, 20, 10, 30}, {30, 30, 20, 40}, {40, 40, 30, 50}, {50, 50, 40, 60}, {70, 70, 60, 80}, {80, 80, 70, 90}, {130, 130, 120, 140}, {140, 140, 130, 150},
		// Between two entries of a leaf, two leaves, two branches.
		{15, 20, 10, 30}, {35, 40, 30, 50}, {25, 30, 20, 40}, {55, 60, 50, 70}, {75, 80, 70, 90}, {135, 140, 130, 150},
		// Either end; 0 is that there is none.
		{5, 10, 0, 20}, {10, 10, 0, 20}, {205, 210, 200, 0}, {210, 210, 200, 0}, {215, 0, 0, 0},
	} {
		for _, move := range []struct {
			name string
			make func(c *Cursor) bool
			want int
		}{
			{"Seek", func(c *Cursor) bool { return c.Seek(number(x.key)) }, x.at},
			{"Next", func(c *Cursor) bool { c.Seek(number(x.key)); return c.Next() }, x.behind},
			{"Prev", func(c *Cursor) bool { c.Seek(number(x.key)); return c.Prev() }, x.ahead},
		} {
			c := New(n)
			moved := move.make(c)
			e, ok := c.Entry()
			var want api.Entry
			if move.want > 0 {
				want = api.Entry{Key: number(move.want), Value: "v" + strconv.Itoa(move.want)}
			}
			if moved != (move.want > 0) || ok != moved || e != want {
				t.Errorf("%s of %d: %t, and %v, %t, not %d", move.name, x.key, moved, e, ok, move.want)
			}
		}
	}
}

// P12.2: the whole way up by First and Next, and down by Last and Prev, twice with the same cursor.
func TestWholeWay(t *testing.T) {
	for _, text := range shapes {
		n := grown(t, text)
		l := tree.Items(n)
		back := slices.Clone(l)
		slices.Reverse(back)
		c := New(n)
		for range 2 {
			if got := wayOf(c, c.First, c.Next); !slices.Equal(got, l) {
				t.Errorf("%s, up: %v, not %v", text, got, l)
			}
			if got := wayOf(c, c.Last, c.Prev); !slices.Equal(got, back) {
				t.Errorf("%s, down: %v, not %v", text, got, back)
			}
		}
	}
}

// wayOf are the entries at which a cursor stands, from one end of its tree to the other, of which there are at most 100.
func wayOf(c *Cursor, start, move func() bool) []api.Entry {
	var out []api.Entry
	for ok := start(); ok && len(out) <= 100; ok = move() {
		e, _ := c.Entry()
		out = append(out, e)
	}
	return out
}

// P12.1: from each entry of trees of all shapes, and from nowhere, each sequence of four moves.
func TestFourMoves(t *testing.T) {
	all := []func(p *pair) bool{(*pair).first, (*pair).last, (*pair).next, (*pair).prev, func(p *pair) bool { return p.seek(number(45)) }}
	for _, text := range shapes {
		n := grown(t, text)
		starts := []string{"\xff"}
		for _, e := range tree.Items(n) {
			starts = append(starts, e.Key)
		}
		for _, start := range starts {
			for code := range 5 * 5 * 5 * 5 {
				p := beside(t, n)
				p.seek(start)
				for range 4 {
					all[code%5](p)
					code /= 5
				}
			}
		}
	}
}

// P12.1: Seek of all keys at and beside the entries, from each of some places, and the moves from where it led. The tree stays what it was.
func TestSeek(t *testing.T) {
	for _, text := range shapes {
		n := grown(t, text)
		nodes, l := nodesOf(n), tree.Items(n)
		for _, key := range nearKeys(l) {
			for _, start := range []func(p *pair) bool{func(p *pair) bool { return false }, (*pair).first, (*pair).last, func(p *pair) bool { return p.seek(number(45)) }} {
				p := beside(t, n)
				start(p)
				p.seek(key)
				p.next()
				p.seek(key)
				p.prev()
				p.seek(key)
				p.seek(key)
			}
		}
		if !slices.Equal(nodesOf(n), nodes) || !slices.Equal(tree.Items(n), l) {
			t.Errorf("%s: the tree has changed", text)
		}
	}
}

// P12.1: keys are compared by bytes; a key stands behind all with which it begins, and no key lies between it and the one with a zero byte behind it.
func TestBytewise(t *testing.T) {
	keys := []string{"\x00", "\x00\x00", "A", "B", "a", "a\x00", "aa", "b", "é", "\x7f", "\x80", "\xff", "\xff\xff", strings.Repeat("\xff", api.MaxKey), "10", "9", long, long[1:]}
	var n *node.Node
	for i, key := range keys {
		n = put(t, n, key, strconv.Itoa(i))
	}
	slices.Sort(keys)
	p := beside(t, n)
	i := 0
	for ok := p.first(); ok; ok = p.next() {
		if e, _ := p.c.Entry(); e.Key != keys[i] {
			t.Errorf("the key %d is %q, not %q", i, e.Key, keys[i])
		}
		i++
	}
	if i != len(keys) {
		t.Errorf("%d keys, not %d", i, len(keys))
	}
	for ok := p.last(); ok; ok = p.prev() {
	}
	for _, key := range nearKeys(p.l) {
		p.seek(key)
		p.prev()
	}
}

// P12.1: values of each kind of length come out as they are, the empty one among them.
func TestValues(t *testing.T) {
	var n *node.Node
	for i, size := range []int{0, 1, api.Inline, api.Inline + 1, api.Piece + 1, api.MaxValue} {
		n = put(t, n, number(i), strings.Repeat("\x00é"[i%2:], size)[:size])
	}
	p := beside(t, n)
	for ok := p.first(); ok; ok = p.next() {
	}
	for ok := p.last(); ok; ok = p.prev() {
	}
}

// P12.2, P6: trees that are derived from the tree, by which the current entry, its neighbours, all others or itself are deleted, replaced or have new ones beside them, have no effect on the cursor.
func TestDerivedMeanwhile(t *testing.T) {
	for _, text := range shapes {
		n := grown(t, text)
		p := beside(t, n)
		for ok := p.first(); ok; ok = p.next() {
			derive(t, n, p)
			p.check()
		}
		for ok := p.last(); ok; ok = p.prev() {
			derive(t, n, p)
			p.check()
		}
		derive(t, n, p)
		p.lost()
	}
}

// derive makes trees from n. In between the cursor stays at its place.
func derive(t *testing.T, n *node.Node, p *pair) {
	t.Helper()
	m := n
	for i, e := range p.l {
		one, found := tree.Del(n, e.Key)
		if _, still := tree.Get(one, e.Key); !found || still {
			t.Fatalf("Del of %q", e.Key)
		}
		m = put(t, m, e.Key+"0", "new")
		m = put(t, m, e.Key, "other")
		if i%2 == 0 {
			m, _ = tree.Del(m, e.Key)
		}
		p.check()
	}
	for _, e := range tree.Items(m) {
		m, _ = tree.Del(m, e.Key)
	}
	if m != nil {
		t.Fatal("not all entries are deleted")
	}
}

// P12.1, P12.2, R6: two cursors in one tree, that take turns, and one in a tree that is derived from it.
func TestTwoCursors(t *testing.T) {
	for _, text := range shapes {
		n := grown(t, text)
		up, down, other := beside(t, n), beside(t, n), beside(t, put(t, n, number(45), "new"))
		up.first()
		down.last()
		other.first()
		for range len(up.l) {
			up.next()
			down.check()
			other.check()
			down.prev()
			up.check()
			other.next()
			up.check()
			down.check()
		}
		up.lost()
		down.lost()
		if !other.prev() && n != nil {
			t.Errorf("%s: the other cursor has lost its position", text)
		}
	}
}

// P12.3: all boolean results are false for a nil Cursor, a zero Cursor, and cursors in trees without entries, whatever was asked before.
func TestNothing(t *testing.T) {
	for name, c := range map[string]*Cursor{"nil": nil, "zero": {}, "new": new(Cursor), "in nil": New(nil), "in a zero node": New(new(node.Node))} {
		for code := range 6 * 6 * 6 {
			for range 3 {
				if asks(t, c, code%6) {
					t.Errorf("%s: the move %d: true", name, code%6)
				}
				code /= 6
			}
		}
		for _, key := range nearKeys([]api.Entry{{Key: "a"}}) {
			if c.Seek(key) || c.Next() || c.Prev() {
				t.Errorf("%s: Seek of %q led to an entry", name, key)
			}
		}
	}
}

// asks makes one move of a cursor, or asks for its entry, which is empty.
func asks(t *testing.T, c *Cursor, move int) bool {
	t.Helper()
	switch move {
	case 0:
		return c.First()
	case 1:
		return c.Last()
	case 2:
		return c.Next()
	case 3:
		return c.Prev()
	case 4:
		return c.Seek("")
	}
	e, ok := c.Entry()
	if e != (api.Entry{}) {
		t.Errorf("the entry is %v", e)
	}
	return ok
}

// P12.1: New returns another cursor each time, and never nil.
func TestNew(t *testing.T) {
	for _, text := range shapes {
		n := grown(t, text)
		c, d := New(n), New(n)
		if c == nil || d == nil || c == d {
			t.Errorf("%s: New returns %p and %p", text, c, d)
		}
	}
}

// The way of this layer: a cursor stores only the tree and a key, so that those that came to the same entry, or to none, are equal, whatever ways they went.
func TestStored(t *testing.T) {
	n := grown(t, "[[2 2 2] [3 2 4]]")
	ways := map[api.Entry]Cursor{{}: *New(n)}
	for seed := range 20 {
		source := rand.New(rand.NewSource(int64(seed)))
		c := New(n)
		for range 100 {
			asks(t, c, source.Intn(4))
			if source.Intn(9) == 0 {
				c.Seek(number(source.Intn(200)))
			}
			e, _ := c.Entry()
			if other, found := ways[e]; found && other != *c {
				t.Fatalf("two cursors at %v: %v and %v", e, other, *c)
			}
			ways[e] = *c
		}
	}
}

// P12.1, P12.2: trees that sequences of Put and Del built, and sequences of moves in each, compared with the sorted list. Cursors in the earlier trees stay.
func TestSequences(t *testing.T) {
	for seed := range 40 {
		source := rand.New(rand.NewSource(int64(seed)))
		keys := 1 << (1 + seed%8)
		values := map[string]string{}
		var n *node.Node
		var earlier []*pair
		for step := range 200 {
			key := number(source.Intn(keys))
			// The tree grows at first, and then shrinks.
			if (source.Intn(10) < 7) == (step < 120) {
				values[key] = strconv.Itoa(step)
				n = put(t, n, key, values[key])
			} else {
				delete(values, key)
				n, _ = tree.Del(n, key)
			}
			if step%4 == 0 {
				p := besideList(t, n, values)
				wander(p, source, keys, 20)
				earlier = append(earlier, p)
				wander(earlier[source.Intn(len(earlier))], source, keys, 5)
			}
		}
	}
}

// besideList makes a cursor in a tree, and compares it with the sorted list of the entries of a map.
func besideList(t *testing.T, n *node.Node, values map[string]string) *pair {
	t.Helper()
	var l []api.Entry
	for key, value := range values {
		l = append(l, api.Entry{Key: key, Value: value})
	}
	slices.SortFunc(l, func(x, y api.Entry) int { return strings.Compare(x.Key, y.Key) })
	return &pair{t: t, c: New(n), l: l, at: -1}
}

// wander makes some moves. Most of them are to the next entry or the previous one, so that the ends are reached.
func wander(p *pair, source *rand.Rand, keys, count int) {
	p.t.Helper()
	p.done = append(p.done, "and on")
	for range count {
		switch x := source.Intn(12); {
		case x < 4:
			p.next()
		case x < 8:
			p.prev()
		case x < 9:
			p.first()
		case x < 10:
			p.last()
		default:
			p.seek(number(source.Intn(keys)) + "5"[source.Intn(2):])
		}
	}
}

// P12.2: the whole way in a tree of many levels. The test takes very long if a move starts at an end of the tree.
func TestLarge(t *testing.T) {
	const size = 20000
	var n *node.Node
	for _, i := range rand.New(rand.NewSource(1)).Perm(size) {
		n = put(t, n, number(10*i), strconv.Itoa(i))
	}
	c := New(n)
	i := 0
	for ok := c.First(); ok; ok = c.Next() {
		if e, _ := c.Entry(); e.Key != number(10*i) || e.Value != strconv.Itoa(i) {
			t.Fatalf("up, the entry %d is %v", i, e)
		}
		i++
	}
	if i != size || n.Height() < 6 {
		t.Fatalf("%d entries; the height is %d", i, n.Height())
	}
	for ok := c.Last(); ok; ok = c.Prev() {
		i--
		if e, _ := c.Entry(); e.Key != number(10*i) || e.Value != strconv.Itoa(i) {
			t.Fatalf("down, the entry %d is %v", i, e)
		}
	}
	if i != 0 {
		t.Errorf("%d entries are left", i)
	}
	for i := range size - 2 {
		if !c.Seek(number(10*i+5)) || !c.Next() || !c.Prev() || !c.Prev() {
			t.Fatalf("from behind the entry %d: false", i)
		}
		if e, _ := c.Entry(); e.Key != number(10*i) {
			t.Fatalf("from behind the entry %d: %v", i, e)
		}
	}
}

// FuzzMoves takes its bytes as keys of a tree, and others as moves, and compares the cursor with the sorted list.
func FuzzMoves(f *testing.F) {
	f.Add([]byte("ac"), []byte("spp"), "b")
	f.Add([]byte("zyxwvutsrqponmlkjihgfedcba"), []byte("fnnnpplppnfps"), "y\x00")
	f.Add([]byte("\x00\xff\x80aa"), []byte("npsnlnpfppn"), "")
	f.Fuzz(func(t *testing.T, b, moves []byte, key string) {
		values := map[string]string{}
		var n *node.Node
		for i, x := range b[:min(len(b), 200)] {
			// One byte or two, so that a key may begin with another one.
			key := strings.Repeat(string(b[i:i+1]), 1+int(x)%2)
			values[key] = strconv.Itoa(i)
			n = put(t, n, key, values[key])
		}
		p := besideList(t, n, values)
		p.check()
		for _, x := range moves[:min(len(moves), 500)] {
			switch x {
			case 'f':
				p.first()
			case 'l':
				p.last()
			case 'n':
				p.next()
			case 'p':
				p.prev()
			case 's':
				p.seek(key)
			default:
				p.seek(string([]byte{x}))
			}
		}
	})
}
