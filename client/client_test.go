package client

import (
	"fmt"
	"maps"
	"math"
	"math/rand"
	"slices"
	"strconv"
	"strings"
	"testing"

	"sapwood/api"
	"sapwood/cell"
	"sapwood/node"
	"sapwood/tree"
)

// kinds are all that a client executes.
var kinds = []int{api.Get, api.Put, api.Del, api.PutNew, api.DelIf}

// number is a key that is greater for a greater number.
func number(i int) string {
	digits := strconv.Itoa(i)
	return strings.Repeat("0", max(0, 6-len(digits))) + digits
}

// letters is a tree whose keys are the letters of a text; each value is its key and "1".
func letters(t testing.TB, keys string) *node.Node {
	t.Helper()
	var n *node.Node
	for _, key := range keys {
		n = put(t, n, string(key), string(key)+"1")
	}
	return n
}

func put(t testing.TB, n *node.Node, key, value string) *node.Node {
	t.Helper()
	n, err := tree.Put(n, api.Entry{Key: key, Value: value})
	if err != api.OK {
		t.Fatalf("Put of %q: %d", key, err)
	}
	return n
}

// ofHeight is a tree whose keys are even numbers from 0 on, as many as its height needs.
func ofHeight(t testing.TB, height int) *node.Node {
	t.Helper()
	var n *node.Node
	for i := 0; n.Height() < height; i += 2 {
		n = put(t, n, number(i), "v"+number(i))
	}
	return n
}

// sparse is a tree that is not valid by layer 10: all its leaves have one entry, and all its branches two kids.
func sparse(t testing.TB, height int, next *int) *node.Node {
	t.Helper()
	if height == 1 {
		*next += 2
		n, err := node.Leaf([]api.Entry{{Key: number(*next), Value: "v" + number(*next)}})
		if err != api.OK {
			t.Fatalf("Leaf: %d", err)
		}
		return n
	}
	n, err := node.Branch([]*node.Node{sparse(t, height-1, next), sparse(t, height-1, next)})
	if err != api.OK {
		t.Fatalf("Branch: %d", err)
	}
	return n
}

// levels is the number of nodes from n down to a leaf.
func levels(n *node.Node) int {
	if n == nil {
		return 0
	}
	if kids := n.Kids(); len(kids) > 0 {
		return 1 + levels(kids[0])
	}
	return 1
}

// content is a node with what it contains.
type content struct {
	n       *node.Node
	height  int
	entries []api.Entry
	kids    []*node.Node
}

// contents are the nodes with what they contain, each before those below it.
func contents(n *node.Node) []content {
	if n == nil {
		return nil
	}
	out := []content{{n: n, height: n.Height(), entries: n.Entries(), kids: n.Kids()}}
	for _, kid := range n.Kids() {
		out = append(out, contents(kid)...)
	}
	return out
}

func (c content) equal(other content) bool {
	return c.n == other.n && c.height == other.height && slices.Equal(c.entries, other.entries) && slices.Equal(c.kids, other.kids)
}

// moment is a tree that was the root, and its entries.
type moment struct {
	n       *node.Node
	entries map[string]string
	nodes   []content
}

func momentOf(n *node.Node) *moment {
	m := &moment{n: n, entries: map[string]string{}, nodes: contents(n)}
	for _, e := range tree.Items(n) {
		m.entries[e.Key] = e.Value
	}
	return m
}

// told is the reply of a call for entries, the resulting entries, and whether they are another tree, all in the chapter's words.
func told(x api.Call, entries map[string]string) (api.Reply, map[string]string, bool) {
	value, exists := entries[x.Key]
	after := maps.Clone(entries)
	switch {
	case x.Kind == api.Get:
		return api.Reply{Value: value, Yes: exists}, entries, false
	case x.Kind == api.Put && exists && value == x.Value:
		return api.Reply{Value: value, Yes: true}, entries, false
	case x.Kind == api.Put:
		after[x.Key] = x.Value
		return api.Reply{Value: value, Yes: exists}, after, true
	case x.Kind == api.Del && exists:
		delete(after, x.Key)
		return api.Reply{Value: value, Yes: true}, after, true
	case x.Kind == api.PutNew && !exists:
		after[x.Key] = x.Value
		return api.Reply{Yes: true}, after, true
	case x.Kind == api.DelIf && exists && value == x.Value:
		delete(after, x.Key)
		return api.Reply{Yes: true}, after, true
	case x.Kind == api.PutNew || x.Kind == api.DelIf:
		return api.Reply{Value: value}, entries, false
	}
	return api.Reply{}, entries, false // Del of a key that does not exist
}

// refused is the error of a call, in the chapter's words.
func refused(pending bool, x api.Call) api.Errno {
	takes := x.Kind == api.Put || x.Kind == api.PutNew || x.Kind == api.DelIf
	switch {
	case pending:
		return api.ErrState
	case !slices.Contains(kinds, x.Kind):
		return api.ErrArg
	case x.Key == "":
		return api.ErrArg
	case len(x.Key) > 24:
		return api.ErrLong
	case takes && len(x.Value) > 400:
		return api.ErrLong
	}
	return api.OK
}

// plain is what the chapter says of a client: its call, and how far that is.
type plain struct {
	call    api.Call
	pending bool
	tries   int
	// done is the number of steps since the call began, or started again.
	done   int
	loaded *moment
	// seen are the roots at each step of the call.
	seen []*moment
}

// expected is what is to come of a step.
type expected struct {
	reply   api.Reply
	ends    bool
	err     api.Errno
	counted int
	// after are the entries of a new root, if the step changes it.
	changes bool
	after   map[string]string
}

// next performs the next step, as the chapter describes it.
func (p *plain) next(root *moment) expected {
	if !p.pending {
		return expected{err: api.ErrState}
	}
	p.seen = append(p.seen, root)
	p.done++
	counted := 0
	if p.done == 1 {
		counted = 1
		p.loaded = root
	}
	nodes := levels(p.loaded.n)
	reply, after, another := told(p.call, p.loaded.entries)
	switch {
	case p.done == nodes+2 && root.n == p.loaded.n:
		*p = plain{seen: p.seen, call: p.call}
		return expected{reply: reply, ends: true, counted: 1, changes: true, after: after}
	case p.done == nodes+2:
		p.done = 0
		p.tries++
		return expected{counted: 1}
	case p.done == nodes+1 && !another:
		*p = plain{seen: p.seen, call: p.call}
		return expected{reply: reply, ends: true, counted: counted}
	}
	return expected{counted: counted}
}

// world is a memory with clients, and beside them what the chapter says of them.
type world struct {
	t       testing.TB
	m       *cell.Memory[*node.Node]
	clients []*Client
	plains  []*plain
	root    *moment
	// roots are all that were the root, and highest is the greatest number of nodes on a path in them.
	roots   []*moment
	highest int
	// applied are the calls that changed the root, from the start on.
	start   *moment
	applied []api.Call
	// since counts the steps of each client since one of them ended a call.
	since []int
	// done are the calls and steps so far.
	done []deed
}

// deed is a call or a step of a client, and what came of it.
type deed struct {
	who   int
	step  bool
	x     api.Call
	reply api.Reply
	ended bool
	err   api.Errno
}

func (d deed) String() string {
	if d.step {
		return fmt.Sprintf("%d: Step: %v, %t, %d", d.who, d.reply, d.ended, d.err)
	}
	return fmt.Sprintf("%d: Call %v: %d", d.who, d.x, d.err)
}

// worldOf is a world whose root is n.
func worldOf(t testing.TB, clients int, n *node.Node) *world {
	return worldIn(t, clients, n, cell.New[*node.Node](1))
}

func worldIn(t testing.TB, clients int, n *node.Node, m *cell.Memory[*node.Node]) *world {
	if err := m.Store(0, n); err != api.OK {
		t.Fatalf("Store: %d", err)
	}
	w := &world{t: t, m: m, since: make([]int, clients)}
	w.become(n)
	w.start = w.root
	for range clients {
		w.clients = append(w.clients, New(m))
		w.plains = append(w.plains, &plain{})
	}
	return w
}

// become says that n is the root now.
func (w *world) become(n *node.Node) {
	w.root = momentOf(n)
	w.roots = append(w.roots, w.root)
	w.highest = max(w.highest, levels(n))
}

func (w *world) fail(text string, values ...any) {
	w.t.Helper()
	for _, d := range w.done[max(0, len(w.done)-60):] {
		w.t.Log(d)
	}
	w.t.Fatalf(text, values...)
}

// call begins a call, and compares its error and that nothing else changes.
func (w *world) call(who int, x api.Call) api.Errno {
	p := w.plains[who]
	want := refused(p.pending, x)
	steps, before := w.m.Steps(), *w.clients[who]
	err := w.clients[who].Call(x)
	w.done = append(w.done, deed{who: who, x: x, err: err})
	if err != api.OK && *w.clients[who] != before {
		w.fail("a call that is refused changes the client")
	}
	if err != want || w.m.Steps() != steps {
		w.fail("the error is %d, not %d; %d steps of the memory", err, want, w.m.Steps()-steps)
	}
	if err == api.OK {
		*p = plain{call: x, pending: true}
	}
	w.compare(who)
	return err
}

// compare asks a client how far it is, without a step of the memory.
func (w *world) compare(who int) {
	p, c := w.plains[who], w.clients[who]
	steps := w.m.Steps()
	for range 2 {
		if c.Pending() != p.pending || c.Tries() != p.tries {
			w.fail("client %d: Pending %t, Tries %d, not %t, %d", who, c.Pending(), c.Tries(), p.pending, p.tries)
		}
	}
	if w.m.Steps() != steps {
		w.fail("client %d: Pending or Tries is a step", who)
	}
}

// step performs a client's step, compares all that is to be seen of it, and reports whether its call ended.
func (w *world) step(who int) bool {
	p := w.plains[who]
	steps, changes := w.m.Steps(), w.m.Changes()
	reply, ended, err := w.clients[who].Step()
	w.done = append(w.done, deed{who: who, step: true, reply: reply, ended: ended, err: err})
	counted, changed := w.m.Steps()-steps, w.m.Changes()-changes
	want := p.next(w.root)
	if reply != want.reply || ended != want.ends || err != want.err {
		w.fail("not %v, %t, %d", want.reply, want.ends, want.err)
	}
	if counted != want.counted || (changed == 1) != want.changes || changed > 1 {
		w.fail("%d steps of the memory, not %d; %d changes, expected: %t", counted, want.counted, changed, want.changes)
	}
	w.compare(who)
	w.look(p, want)
	if err == api.OK {
		w.progress(who, ended)
	}
	if ended {
		w.atOneMoment(p, reply, changed == 1)
	}
	return ended
}

// look compares the root behind a step.
func (w *world) look(p *plain, want expected) {
	n, err := w.m.Load(0)
	if err != api.OK {
		w.fail("Load: %d", err)
	}
	if !want.changes {
		if n != w.root.n {
			w.fail("the root changed")
		}
		return
	}
	before := w.root
	w.become(n)
	w.applied = append(w.applied, p.call)
	if !maps.Equal(w.root.entries, want.after) {
		w.fail("the entries are %v, not %v", w.root.entries, want.after)
	}
	if n == before.n || tree.Right(before.n) && !tree.Right(n) {
		w.fail("the root is the same, or not valid")
	}
}

// progress counts steps, and compares them with P16.4.
func (w *world) progress(who int, ended bool) {
	if ended {
		clear(w.since)
		return
	}
	w.since[who]++
	if w.since[who] >= 2*(w.highest+2) {
		w.fail("client %d performed %d steps and no call ended", who, w.since[who])
	}
}

// atOneMoment compares a reply with those for the roots at the call's steps (P16.3).
func (w *world) atOneMoment(p *plain, reply api.Reply, changed bool) {
	last := p.seen[len(p.seen)-1]
	for _, m := range p.seen {
		want, _, another := told(p.call, m.entries)
		if want == reply && another == changed && (!changed || m == last) {
			return
		}
	}
	w.fail("the reply is that for none of the roots at the call's steps")
}

// store makes n the root, as no client does; steps and changes are counted anew from then on.
func (w *world) store(n *node.Node) {
	w.t.Helper()
	if err := w.m.Store(0, n); err != api.OK {
		w.fail("Store: %d", err)
	}
	w.become(n)
	w.start, w.applied = w.root, nil
	clear(w.since)
}

// finish lets each client end its call, applies all changes again, in their order, and looks at everything that was the root.
func (w *world) finish() {
	for who := range w.clients {
		for w.plains[who].pending {
			w.step(who)
		}
	}
	w.applyAll()
	w.unchanged()
}

// applyAll compares the entries with the changes, applied in the order in which they were made.
func (w *world) applyAll() {
	entries := w.start.entries
	for _, x := range w.applied {
		_, after, another := told(x, entries)
		if !another {
			w.fail("%v changed the root", x)
		}
		entries = after
	}
	if !maps.Equal(entries, w.root.entries) {
		w.fail("the entries are %v, not %v", w.root.entries, entries)
	}
}

// unchanged looks at all nodes of everything that was the root (R3).
func (w *world) unchanged() {
	for i, m := range w.roots {
		if now := contents(m.n); !slices.EqualFunc(now, m.nodes, content.equal) {
			w.fail("root %d is now %v, not %v", i, now, m.nodes)
		}
	}
}

// ends performs a client's steps until its call ends, and returns their number.
func (w *world) ends(who int) int {
	w.t.Helper()
	for n := 1; n < 1000; n++ {
		if w.step(who) {
			return n
		}
	}
	w.fail("client %d does not end", who)
	return 0
}

// does begins a call and ends it, and returns the number of its steps.
func (w *world) does(who int, x api.Call) int {
	w.t.Helper()
	if err := w.call(who, x); err != api.OK {
		w.fail("Call: %d", err)
	}
	return w.ends(who)
}

func (w *world) steps(who, n int) {
	w.t.Helper()
	for range n {
		if w.step(who) {
			w.fail("client %d ended early", who)
		}
	}
}

// P16.1, the chapter's examples: Get in an empty tree takes one step, Put takes two.
func TestExamples(t *testing.T) {
	m := cell.New[*node.Node](1)
	c := New(m)
	if err := c.Call(api.Call{Kind: api.Get, Key: "a"}); err != api.OK {
		t.Fatalf("Call: %d", err)
	}
	if r, ended, err := c.Step(); r != (api.Reply{}) || !ended || err != api.OK {
		t.Errorf("Get: %v, %t, %d", r, ended, err)
	}
	if err := c.Call(api.Call{Kind: api.Put, Key: "a", Value: "1"}); err != api.OK {
		t.Fatalf("Call: %d", err)
	}
	if r, ended, err := c.Step(); r != (api.Reply{}) || ended || err != api.OK {
		t.Errorf("the first step of Put: %v, %t, %d", r, ended, err)
	}
	if r, ended, err := c.Step(); r != (api.Reply{}) || !ended || err != api.OK {
		t.Errorf("the second step of Put: %v, %t, %d", r, ended, err)
	}
	n, _ := m.Load(0)
	if l := tree.Items(n); !slices.Equal(l, []api.Entry{{Key: "a", Value: "1"}}) {
		t.Errorf("the entries are %v", l)
	}
}

// oddKinds are kinds that no client executes.
var oddKinds = []int{
	0, 6, 7, 8, -1, -2, -5, 100, 255, 256, 257, 261, 1 << 16, 1<<16 + 1, 1<<32 + 2,
	math.MaxInt32, math.MinInt32, math.MaxInt, math.MinInt, math.MinInt + 1,
}

// keys and values of all lengths that matter, with any bytes.
var keys = []string{
	"", "a", "\x00", "\xff\xfe", strings.Repeat("k", 23), strings.Repeat("k", 24), strings.Repeat("k", 25),
	strings.Repeat("\xff", 24), strings.Repeat("é", 12), strings.Repeat("é", 13), strings.Repeat("k", 1000),
}

var values = []string{
	"", "a", "\x00", strings.Repeat("v", 24), strings.Repeat("v", 25), strings.Repeat("v", 399), strings.Repeat("v", 400), strings.Repeat("v", 401),
	strings.Repeat("é", 200), strings.Repeat("é", 201), strings.Repeat("v", 5000),
}

// P16.1: the error of Call for all kinds with all keys and values, which one comes first, and that a call that is refused changes nothing.
func TestCallErrors(t *testing.T) {
	w := worldOf(t, 1, letters(t, "abc"))
	for _, kind := range append(slices.Clone(kinds), oddKinds...) {
		for _, key := range keys {
			for _, value := range values {
				if w.call(0, api.Call{Kind: kind, Key: key, Value: value}) != api.OK {
					w.step(0)
					continue
				}
				w.ends(0)
			}
		}
	}
	w.finish()
}

// P16.1: the same errors, named one by one.
func TestCallErrorsNamed(t *testing.T) {
	longKey, longValue := strings.Repeat("k", 25), strings.Repeat("v", 401)
	for _, x := range []struct {
		call api.Call
		want api.Errno
	}{
		{api.Call{}, api.ErrArg},
		{api.Call{Kind: 0, Key: "a"}, api.ErrArg},
		{api.Call{Kind: api.Flush}, api.ErrArg},
		{api.Call{Kind: api.Snap}, api.ErrArg},
		{api.Call{Kind: api.Flush, Key: "a"}, api.ErrArg},
		{api.Call{Kind: -1, Key: longKey, Value: longValue}, api.ErrArg},
		{api.Call{Kind: api.Get}, api.ErrArg},
		{api.Call{Kind: api.Get, Key: longKey}, api.ErrLong},
		{api.Call{Kind: api.Get, Key: "a", Value: longValue}, api.OK},
		{api.Call{Kind: api.Del, Value: longValue}, api.ErrArg},
		{api.Call{Kind: api.Del, Key: longKey}, api.ErrLong},
		{api.Call{Kind: api.Del, Key: "a", Value: longValue}, api.OK},
		{api.Call{Kind: api.Put, Value: longValue}, api.ErrArg},
		{api.Call{Kind: api.Put, Key: "a", Value: longValue}, api.ErrLong},
		{api.Call{Kind: api.Put, Key: longKey}, api.ErrLong},
		{api.Call{Kind: api.Put, Key: "a"}, api.OK},
		{api.Call{Kind: api.PutNew, Value: longValue}, api.ErrArg},
		{api.Call{Kind: api.PutNew, Key: "a", Value: longValue}, api.ErrLong},
		{api.Call{Kind: api.PutNew, Key: "a"}, api.OK},
		{api.Call{Kind: api.DelIf, Value: longValue}, api.ErrArg},
		{api.Call{Kind: api.DelIf, Key: "a", Value: longValue}, api.ErrLong},
		{api.Call{Kind: api.DelIf, Key: "a"}, api.OK},
	} {
		c := New(cell.New[*node.Node](1))
		if err := c.Call(x.call); err != x.want || c.Pending() != (x.want == api.OK) {
			t.Errorf("Call %v: %d, Pending %t, not %d", x.call, err, c.Pending(), x.want)
		}
	}
}

// P16.1: Step without a call: before the first one, behind one that was refused, and behind one that ended.
func TestStepWithoutCall(t *testing.T) {
	w := worldOf(t, 1, letters(t, "ab"))
	w.step(0)
	w.step(0)
	w.call(0, api.Call{Kind: api.Flush, Key: "a"})
	w.step(0)
	for _, kind := range kinds {
		w.does(0, api.Call{Kind: kind, Key: "c", Value: "x"})
		if r, ended, err := w.clients[0].Step(); r != (api.Reply{}) || ended || err != api.ErrState {
			t.Errorf("behind kind %d: %v, %t, %d", kind, r, ended, err)
		}
		w.step(0)
	}
	w.finish()
}

// P16.1: a call beside one in progress, at each of its steps, is refused, and that one stays as it was.
func TestCallBesideCall(t *testing.T) {
	beside := []api.Call{
		{Kind: api.Put, Key: number(1), Value: "other"}, {Kind: api.Get, Key: number(3)}, {Kind: api.Del, Key: number(2)},
		{}, {Kind: api.Flush}, {Kind: api.Put}, {Kind: api.Put, Key: "a", Value: strings.Repeat("v", 401)},
	}
	for height := range 4 {
		for _, kind := range kinds {
			w := worldOf(t, 2, ofHeight(t, height))
			w.call(0, api.Call{Kind: kind, Key: number(1), Value: "mine"})
			w.call(1, api.Call{Kind: api.Put, Key: number(5), Value: "theirs"})
			w.steps(1, height+1)
			for ended := false; !ended && w.clients[0].Pending(); {
				for _, x := range beside {
					if err := w.call(0, x); err != api.ErrState {
						t.Fatalf("Call %v: %d", x, err)
					}
				}
				ended = w.step(0)
				if w.plains[1].pending {
					w.step(1)
				}
			}
			w.finish()
		}
	}
}

// P16.1: calls are not retained behind their end: a client has no call then, and is as new.
func TestEndedClientIsNew(t *testing.T) {
	w := worldOf(t, 2, nil)
	for _, kind := range kinds {
		for _, key := range []string{"a", "b"} {
			w.call(0, api.Call{Kind: kind, Key: key, Value: "x"})
			w.step(0)
			w.does(1, api.Call{Kind: api.Put, Key: "c", Value: kindName(kind) + key})
			if w.plains[0].pending {
				w.ends(0)
			}
			if *w.clients[0] != *New(w.m) {
				t.Errorf("behind %s of %s: %v", kindName(kind), key, *w.clients[0])
			}
		}
	}
	w.finish()
}

func kindName(kind int) string {
	return []string{"none", "Get", "Put", "Del", "PutNew", "DelIf"}[kind]
}

// Words: the reply and the resulting tree of each kind, named one by one. The tree has a, with the value 1, and b, with the empty one.
func TestReplies(t *testing.T) {
	both := "a=1 b= "
	for _, x := range []struct {
		call  api.Call
		want  api.Reply
		after string
	}{
		{api.Call{Kind: api.Get, Key: "a"}, api.Reply{Yes: true, Value: "1"}, both},
		{api.Call{Kind: api.Get, Key: "a", Value: "2"}, api.Reply{Yes: true, Value: "1"}, both},
		{api.Call{Kind: api.Get, Key: "b"}, api.Reply{Yes: true}, both},
		{api.Call{Kind: api.Get, Key: "c"}, api.Reply{}, both},
		{api.Call{Kind: api.Put, Key: "a", Value: "2"}, api.Reply{Yes: true, Value: "1"}, "a=2 b= "},
		{api.Call{Kind: api.Put, Key: "a", Value: "1"}, api.Reply{Yes: true, Value: "1"}, both},
		{api.Call{Kind: api.Put, Key: "a"}, api.Reply{Yes: true, Value: "1"}, "a= b= "},
		{api.Call{Kind: api.Put, Key: "b"}, api.Reply{Yes: true}, both},
		{api.Call{Kind: api.Put, Key: "b", Value: "2"}, api.Reply{Yes: true}, "a=1 b=2 "},
		{api.Call{Kind: api.Put, Key: "c", Value: "3"}, api.Reply{}, "a=1 b= c=3 "},
		{api.Call{Kind: api.Put, Key: "c"}, api.Reply{}, "a=1 b= c= "},
		{api.Call{Kind: api.Del, Key: "a"}, api.Reply{Yes: true, Value: "1"}, "b= "},
		{api.Call{Kind: api.Del, Key: "a", Value: "2"}, api.Reply{Yes: true, Value: "1"}, "b= "},
		{api.Call{Kind: api.Del, Key: "b"}, api.Reply{Yes: true}, "a=1 "},
		{api.Call{Kind: api.Del, Key: "c"}, api.Reply{}, both},
		{api.Call{Kind: api.PutNew, Key: "a", Value: "2"}, api.Reply{Value: "1"}, both},
		{api.Call{Kind: api.PutNew, Key: "a", Value: "1"}, api.Reply{Value: "1"}, both},
		{api.Call{Kind: api.PutNew, Key: "b", Value: "2"}, api.Reply{}, both},
		{api.Call{Kind: api.PutNew, Key: "c", Value: "3"}, api.Reply{Yes: true}, "a=1 b= c=3 "},
		{api.Call{Kind: api.PutNew, Key: "c"}, api.Reply{Yes: true}, "a=1 b= c= "},
		{api.Call{Kind: api.DelIf, Key: "a", Value: "1"}, api.Reply{Yes: true}, "b= "},
		{api.Call{Kind: api.DelIf, Key: "a", Value: "2"}, api.Reply{Value: "1"}, both},
		{api.Call{Kind: api.DelIf, Key: "a"}, api.Reply{Value: "1"}, both},
		{api.Call{Kind: api.DelIf, Key: "a", Value: "11"}, api.Reply{Value: "1"}, both},
		{api.Call{Kind: api.DelIf, Key: "b"}, api.Reply{Yes: true}, "a=1 "},
		{api.Call{Kind: api.DelIf, Key: "b", Value: "1"}, api.Reply{}, both},
		{api.Call{Kind: api.DelIf, Key: "c"}, api.Reply{}, both},
		{api.Call{Kind: api.DelIf, Key: "c", Value: "1"}, api.Reply{}, both},
	} {
		m := cell.New[*node.Node](1)
		start := put(t, put(t, nil, "a", "1"), "b", "")
		m.Store(0, start)
		c := New(m)
		c.Call(x.call)
		var r api.Reply
		ended := false
		for n := 0; !ended && n < 10; n++ {
			r, ended, _ = c.Step()
		}
		n, _ := m.Load(0)
		text := ""
		for _, e := range tree.Items(n) {
			text += e.Key + "=" + e.Value + " "
		}
		same := x.after == both
		if !ended || r != x.want || text != x.after || (n == start) != same || (m.Changes() == 0) != same {
			t.Errorf("%s %v: %v, %s, %d changes; not %v, %s", kindName(x.call.Kind), x.call, r, text, m.Changes(), x.want, x.after)
		}
	}
}

// Words: the number of steps of each kind, in trees of all heights: the load, one for each node on the path, and the swap if something changes. The memory counts only the load and the swap.
func TestNumberOfSteps(t *testing.T) {
	for height := range 7 {
		start := ofHeight(t, height)
		if levels(start) != height {
			t.Fatalf("height %d, not %d", levels(start), height)
		}
		last := 2*start.Size() - 2
		for _, i := range []int{-1, 0, 1, last - 1, last, last + 1, last / 4 * 2, last/4*2 + 1} {
			for _, kind := range kinds {
				for _, value := range []string{"", "other", "v" + number(i)} {
					x := api.Call{Kind: kind, Key: number(i), Value: value}
					w := worldOf(t, 1, start)
					before := w.m.Changes()
					want := 1 + height
					if _, _, another := told(x, w.root.entries); another {
						want++
					}
					if n := w.does(0, x); n != want || w.m.Changes()-before != want-1-height {
						t.Errorf("%s %v at height %d: %d steps, %d changes, not %d steps", kindName(kind), x, height, n, w.m.Changes()-before, want)
					}
				}
			}
		}
	}
}

// Words: what the memory counts, without any look at it between the steps.
func TestOnlyLoadAndSwapAreCounted(t *testing.T) {
	for height := range 6 {
		for _, kind := range kinds {
			m := cell.New[*node.Node](1)
			start := ofHeight(t, height)
			m.Store(0, start)
			entries := momentOf(start).entries
			c := New(m)
			x := api.Call{Kind: kind, Key: number(2), Value: "w"}
			before := m.Steps()
			c.Call(x)
			n := 0
			for ended := false; !ended && n < 100; n++ {
				_, ended, _ = c.Step()
				if n == 0 && m.Steps() != before+1 {
					t.Errorf("%s at height %d: the first step is %d of the memory", kindName(kind), height, m.Steps()-before)
				}
			}
			_, _, another := told(x, entries)
			want := 1
			if another {
				want = 2
			}
			if m.Steps()-before != want || m.Changes() != want-1 || n != height+want {
				t.Errorf("%s at height %d: %d steps, of the memory %d, %d changes", kindName(kind), height, n, m.Steps()-before, m.Changes())
			}
		}
	}
}

// P16.2 and P16.1: Pending and Tries at each step, behind failed swaps, behind the end, and before the first call.
func TestTries(t *testing.T) {
	for height := 1; height < 5; height++ {
		w := worldOf(t, 2, ofHeight(t, height))
		c := w.clients[0]
		tells := func(pending bool, tries int) {
			t.Helper()
			if c.Pending() != pending || c.Tries() != tries {
				t.Errorf("at height %d: Pending %t, Tries %d, not %t, %d", height, c.Pending(), c.Tries(), pending, tries)
			}
		}
		tells(false, 0)
		w.call(0, api.Call{Kind: api.Get})
		tells(false, 0)
		w.call(0, api.Call{Kind: api.Put, Key: number(1), Value: "mine"})
		tells(true, 0)
		for tries := range 5 {
			tells(true, tries)
			for range height + 1 {
				w.steps(0, 1)
				tells(true, tries)
			}
			w.does(1, api.Call{Kind: api.Put, Key: number(0), Value: strconv.Itoa(tries)})
			tells(true, tries)
			w.steps(0, 1)
			tells(true, tries+1)
		}
		w.steps(0, height+1)
		tells(true, 5)
		if !w.step(0) {
			t.Errorf("at height %d: it does not end", height)
		}
		tells(false, 0)
		w.step(0)
		tells(false, 0)
		w.call(0, api.Call{Kind: api.Get, Key: number(1)})
		tells(true, 0)
		w.ends(0)
		tells(false, 0)
		w.finish()
	}
}

// P16.3: a call that changes nothing is never started again, whatever others do, since it swaps nothing.
func TestCallsThatChangeNothing(t *testing.T) {
	for height := 1; height < 4; height++ {
		start := ofHeight(t, height)
		for _, x := range []api.Call{
			{Kind: api.Get, Key: number(0)}, {Kind: api.Get, Key: number(1)}, {Kind: api.Put, Key: number(0), Value: "v" + number(0)},
			{Kind: api.Del, Key: number(1)}, {Kind: api.PutNew, Key: number(0), Value: "x"}, {Kind: api.DelIf, Key: number(0), Value: "x"}, {Kind: api.DelIf, Key: number(1)},
		} {
			w := worldOf(t, 2, start)
			w.call(0, x)
			for i := range height {
				w.steps(0, 1)
				w.does(1, api.Call{Kind: api.Put, Key: number(0), Value: strconv.Itoa(i)})
				w.does(1, api.Call{Kind: api.Put, Key: number(1), Value: strconv.Itoa(i)})
			}
			changes := w.m.Changes()
			if !w.step(0) || w.m.Changes() != changes {
				t.Errorf("%s %v at height %d does not end, or changes something", kindName(x.Kind), x, height)
			}
			w.finish()
		}
	}
}

// Words: a swap fails because another client changed the root, whichever key that was about.
func TestSwapFails(t *testing.T) {
	for height := range 5 {
		for _, key := range []string{number(1), number(0), number(7)} {
			w := worldOf(t, 2, ofHeight(t, height))
			w.call(0, api.Call{Kind: api.PutNew, Key: number(1), Value: "mine"})
			w.steps(0, height+1)
			w.does(1, api.Call{Kind: api.Put, Key: key, Value: "theirs"})
			w.steps(0, 1)
			if w.clients[0].Tries() != 1 {
				t.Errorf("Tries is %d", w.clients[0].Tries())
			}
			w.ends(0)
			w.finish()
			want := "mine"
			if key == number(1) {
				want = "theirs"
			}
			if got := w.root.entries[number(1)]; got != want {
				t.Errorf("at height %d, %s: the value is %q", height, key, got)
			}
		}
	}
}

// Words: a swap fails although the entries are the same again, because they are in other nodes.
func TestSwapFailsForSameEntries(t *testing.T) {
	for height := 1; height < 5; height++ {
		w := worldOf(t, 2, ofHeight(t, height))
		before := w.root
		w.call(0, api.Call{Kind: api.Put, Key: number(1), Value: "mine"})
		w.steps(0, height+1)
		w.does(1, api.Call{Kind: api.Put, Key: number(0), Value: "x"})
		w.does(1, api.Call{Kind: api.Put, Key: number(0), Value: "v" + number(0)})
		if !maps.Equal(before.entries, w.root.entries) || before.n == w.root.n {
			t.Fatal("the entries are to be the same, in another tree")
		}
		w.steps(0, 1)
		if w.clients[0].Tries() != 1 {
			t.Errorf("Tries is %d", w.clients[0].Tries())
		}
		w.ends(0)
		w.finish()
	}
}

// Words: a swap succeeds because the root is the same node again: the empty tree, or one that was stored again.
func TestSwapSucceedsForSameNode(t *testing.T) {
	w := worldOf(t, 2, nil)
	w.call(0, api.Call{Kind: api.Put, Key: "b", Value: "mine"})
	w.steps(0, 1)
	w.does(1, api.Call{Kind: api.Put, Key: "a", Value: "theirs"})
	w.does(1, api.Call{Kind: api.Del, Key: "a"})
	if !w.step(0) {
		t.Error("the empty tree: the call does not end")
	}
	w.finish()
	for height := 1; height < 5; height++ {
		w := worldOf(t, 2, ofHeight(t, height))
		start := w.root.n
		w.call(0, api.Call{Kind: api.Del, Key: number(0)})
		w.steps(0, height+1)
		w.does(1, api.Call{Kind: api.Put, Key: number(1), Value: "x"})
		w.store(start)
		if !w.step(0) || w.clients[0].Tries() != 0 {
			t.Errorf("at height %d: the call does not end", height)
		}
		w.finish()
	}
}

// P16.3: a client stands still at any of its steps while another one goes on, and goes on later.
func TestStandsStill(t *testing.T) {
	for height := range 4 {
		for _, kind := range kinds {
			for still := range height + 2 {
				w := worldOf(t, 2, ofHeight(t, height))
				w.call(0, api.Call{Kind: kind, Key: number(2), Value: "v" + number(2)})
				for range still {
					if w.plains[0].pending {
						w.step(0)
					}
				}
				for i := range 60 {
					if n := w.does(1, api.Call{Kind: api.Put, Key: number(i % 9), Value: strconv.Itoa(i)}); n != levels(w.roots[len(w.roots)-2].n)+2 {
						t.Fatalf("the other one took %d steps", n)
					}
				}
				w.finish()
			}
		}
	}
}

// orders performs run with every sequence of choices: each choose(n) in it returns one of the numbers below n. It returns how many there are.
func orders(run func(choose func(n int) int)) int {
	var path, sizes []int
	for count := 1; ; count++ {
		at := 0
		run(func(n int) int {
			if at == len(path) {
				path = append(path, 0)
				sizes = append(sizes, n)
			}
			at++
			return path[at-1]
		})
		for len(path) > 0 && path[len(path)-1]+1 == sizes[len(path)-1] {
			path = path[:len(path)-1]
			sizes = sizes[:len(path)]
		}
		if len(path) == 0 {
			return count
		}
		path[len(path)-1]++
	}
}

// mixed lets clients, each with calls to perform one after the other, step in every order, and returns the number of orders. A call begins with its first step.
func mixed(t testing.TB, start *node.Node, todo ...[]api.Call) int {
	t.Helper()
	return orders(func(choose func(n int) int) {
		w := worldOf(t, len(todo), start)
		at := make([]int, len(todo))
		for {
			var able []int
			for who, p := range w.plains {
				if p.pending || at[who] < len(todo[who]) {
					able = append(able, who)
				}
			}
			if len(able) == 0 {
				break
			}
			who := able[0]
			if len(able) > 1 {
				who = able[choose(len(able))]
			}
			if !w.plains[who].pending {
				w.call(who, todo[who][at[who]])
				at[who]++
			}
			w.step(who)
		}
		w.finish()
	})
}

// someCalls are calls of all kinds, about a key that exists in most trees, b, and one that does not, c.
var someCalls = []api.Call{
	{Kind: api.Get, Key: "b"}, {Kind: api.Get, Key: "c"},
	{Kind: api.Put, Key: "b", Value: "b1"}, {Kind: api.Put, Key: "b", Value: "x"}, {Kind: api.Put, Key: "c", Value: "x"},
	{Kind: api.Del, Key: "b"}, {Kind: api.Del, Key: "c"},
	{Kind: api.PutNew, Key: "b", Value: "y"}, {Kind: api.PutNew, Key: "c", Value: "y"},
	{Kind: api.DelIf, Key: "b", Value: "b1"}, {Kind: api.DelIf, Key: "b", Value: "x"}, {Kind: api.DelIf, Key: "b"}, {Kind: api.DelIf, Key: "c", Value: "x"},
}

// P16.3: two clients with one call each, in every order, from trees that grow and shrink by them.
func TestTwoClientsInEveryOrder(t *testing.T) {
	for _, keys := range []string{"", "b", "ab", "abde", "abdef", "abdefghijkl"} {
		start := letters(t, keys)
		for _, x := range someCalls {
			for _, y := range someCalls {
				if n := mixed(t, start, []api.Call{x}, []api.Call{y}); n < 2 {
					t.Errorf("%v and %v in %q: %d orders", x, y, keys, n)
				}
			}
		}
	}
	// Three steps of each, of which the last one fails in most orders.
	if n := mixed(t, letters(t, "ab"), someCalls[4:5], someCalls[8:9]); n != 20 {
		t.Errorf("%d orders", n)
	}
}

// fewCalls are calls that change each other's replies in the tree with b, or in the empty one.
var fewCalls = []api.Call{
	{Kind: api.Get, Key: "b"}, {Kind: api.Put, Key: "b", Value: "x"}, {Kind: api.Del, Key: "b"},
	{Kind: api.PutNew, Key: "c", Value: "y"}, {Kind: api.DelIf, Key: "b", Value: "x"},
}

// P16.3: two clients with two calls each, in every order. Clients are alike, so that it does not matter which of them has which calls.
func TestTwoCallsInEveryOrder(t *testing.T) {
	var twos [][]api.Call
	for _, x := range fewCalls {
		for _, y := range fewCalls {
			twos = append(twos, []api.Call{x, y})
		}
	}
	for i, mine := range twos {
		for j, theirs := range twos[:i+1] {
			mixed(t, nil, mine, theirs)
			if (i+j)%3 == 0 {
				mixed(t, letters(t, "b"), mine, theirs)
			}
		}
	}
}

// P16.3: three clients with one call each, in every order.
func TestThreeClientsInEveryOrder(t *testing.T) {
	for i := range fewCalls {
		for j := range i + 1 {
			for k := range j + 1 {
				x, y, z := fewCalls[i:i+1], fewCalls[j:j+1], fewCalls[k:k+1]
				mixed(t, nil, x, y, z)
				if (i+j+k)%2 == 0 {
					mixed(t, letters(t, "b"), x, y, z)
				}
			}
		}
	}
	// Two steps of each, of which the last one fails in most orders: then there are others behind it.
	if n := mixed(t, nil, fewCalls[3:4], fewCalls[3:4], fewCalls[3:4]); n < 90 {
		t.Errorf("%d orders", n)
	}
}

// anyCall is a call about one of some keys, with one of few values, so that many of them meet; some are to be refused.
func anyCall(r *rand.Rand, keys int) api.Call {
	x := api.Call{Kind: kinds[r.Intn(len(kinds))], Key: number(r.Intn(keys)), Value: strings.Repeat("z", r.Intn(3))}
	switch r.Intn(40) {
	case 0:
		x.Kind = oddKinds[r.Intn(len(oddKinds))]
	case 1:
		x.Key = ""
	case 2:
		x.Key = strings.Repeat("k", 25)
	case 3:
		x.Value = strings.Repeat("v", 400+r.Intn(2))
	case 4:
		x.Value = "v" + x.Key
	}
	return x
}

// seeded lets clients perform a number of steps in an order that follows from a seed. Some of them rest for a while.
func seeded(w *world, seed int64, keys, steps int) {
	w.t.Helper()
	r := rand.New(rand.NewSource(seed))
	awake := len(w.clients)
	for i := range steps {
		if i%50 == 0 {
			awake = 1 + r.Intn(len(w.clients))
		}
		who := r.Intn(awake)
		switch {
		case !w.plains[who].pending || r.Intn(20) == 0:
			w.call(who, anyCall(r, keys))
		case r.Intn(30) == 0:
			w.step(r.Intn(len(w.clients)))
		default:
			w.step(who)
		}
	}
	w.finish()
}

// P16.1 to P16.4, R3: comparison with the plain record, over many seeded runs of several clients.
func TestSeededRuns(t *testing.T) {
	for seed := range int64(240) {
		keys := []int{1, 2, 4, 9, 30, 60}[seed%6]
		w := worldOf(t, 1+int(seed)%9, ofHeight(t, int(seed/6)%4))
		seeded(w, seed, keys, 300)
	}
}

// P16.1: of several words only word 0 counts, and no other one is loaded or changed.
func TestOnlyWordZero(t *testing.T) {
	for _, words := range []int{2, 3, 100} {
		m := cell.New[*node.Node](words)
		var others []*node.Node
		for i := 1; i < words; i++ {
			others = append(others, letters(t, "xyz"[:1+i%3]))
			m.Store(i, others[i-1])
		}
		w := worldIn(t, 3, ofHeight(t, words%3), m)
		seeded(w, int64(words), 8, 500)
		for i, n := range others {
			if now, _ := m.Load(i + 1); now != n {
				t.Errorf("word %d of %d changed", i+1, words)
			}
		}
	}
}

// R1: trees that are not valid, and a zero Node, as roots.
func TestRootsThatAreNotValid(t *testing.T) {
	for height := range 6 {
		next := 0
		start := &node.Node{}
		if height > 0 {
			start = sparse(t, height, &next)
		}
		for seed := range int64(20) {
			w := worldOf(t, 3, start)
			seeded(w, seed, 12, 200)
		}
	}
}

// P16.3: what is stored beside the clients is a change of the root like any other.
func TestStoredRoots(t *testing.T) {
	for seed := range int64(40) {
		r := rand.New(rand.NewSource(seed))
		w := worldOf(t, 3, ofHeight(t, 2))
		for range 200 {
			who := r.Intn(3)
			if !w.plains[who].pending {
				w.call(who, anyCall(r, 6))
			}
			w.step(who)
			if r.Intn(6) == 0 {
				w.store(w.roots[r.Intn(len(w.roots))].n)
			}
		}
		w.finish()
	}
}

// P16.4: the most steps that clients perform until one of them ends its call. All stand just before their swaps when one ends; each other one then fails, and performs a whole try, in which the last ones are the first to end.
func TestMostStepsUntilOneEnds(t *testing.T) {
	for height := 1; height < 5; height++ {
		for _, clients := range []int{1, 2, 3, api.MaxClients, 20} {
			w := worldOf(t, clients, ofHeight(t, height))
			for who := range clients {
				w.call(who, api.Call{Kind: api.Put, Key: number(2 * who), Value: "x" + strconv.Itoa(who)})
				w.steps(who, height+1)
			}
			for first := range clients {
				if !w.step(first) {
					t.Fatalf("client %d does not end", first)
				}
				for who := first + 1; who < clients; who++ {
					w.steps(who, 1)
					if w.plains[who].tries != first+1 {
						t.Fatalf("client %d started again %d times", who, w.plains[who].tries)
					}
					w.steps(who, levels(w.root.n)+1)
				}
			}
			w.finish()
		}
	}
}

// P16.4: whatever steps are chosen, for any clients that step alone, one of them ends in time. The orders follow from seeds, and prefer the client whose swap would fail.
func TestUnfairOrders(t *testing.T) {
	for seed := range int64(60) {
		r := rand.New(rand.NewSource(seed))
		w := worldOf(t, 4, ofHeight(t, int(seed)%4))
		total, ended := 0, 0
		for total < 600 {
			who := r.Intn(4)
			for other, p := range w.plains {
				if p.pending && p.loaded != nil && p.loaded.n != w.root.n {
					who = other
				}
			}
			if !w.plains[who].pending {
				w.call(who, api.Call{Kind: api.Put, Key: number(who), Value: strconv.Itoa(total)})
			}
			if w.step(who) {
				ended++
			}
			total++
		}
		if ended < 600/(4*2*(4+2)) {
			t.Errorf("seed %d: %d calls ended", seed, ended)
		}
		w.finish()
	}
}

// P16.5: a nil client and a zero client.
func TestNilAndZeroClient(t *testing.T) {
	var none *Client
	zero := &Client{}
	for _, c := range []*Client{none, zero} {
		for range 2 {
			for _, kind := range append(slices.Clone(kinds), oddKinds...) {
				for _, key := range keys {
					if err := c.Call(api.Call{Kind: kind, Key: key, Value: "x"}); err != api.ErrState {
						t.Errorf("Call of kind %d: %d", kind, err)
					}
				}
				if r, ended, err := c.Step(); r != (api.Reply{}) || ended || err != api.ErrState {
					t.Errorf("Step: %v, %t, %d", r, ended, err)
				}
				if c.Pending() || c.Tries() != 0 {
					t.Errorf("Pending %t, Tries %d", c.Pending(), c.Tries())
				}
			}
		}
	}
	if *zero != (Client{}) {
		t.Errorf("the zero client is now %v", *zero)
	}
}

// P16.5: a memory without words: a nil one, a zero one, and those that New of layer 8 makes without words.
func TestMemoryWithoutWords(t *testing.T) {
	for i, m := range []*cell.Memory[*node.Node]{nil, {}, cell.New[*node.Node](0), cell.New[*node.Node](-3)} {
		c := New(m)
		if c == nil || c.Pending() || c.Tries() != 0 {
			t.Fatalf("memory %d: New is %v", i, c)
		}
		if _, _, err := c.Step(); err != api.ErrState {
			t.Errorf("memory %d: Step without a call: %d", i, err)
		}
		for _, kind := range append(slices.Clone(kinds), oddKinds...) {
			for _, key := range keys {
				for _, value := range values {
					x := api.Call{Kind: kind, Key: key, Value: value}
					want := refused(false, x)
					if err := c.Call(x); err != want || c.Pending() != (want == api.OK) || c.Tries() != 0 {
						t.Fatalf("memory %d: Call %v: %d, Pending %t", i, x, err, c.Pending())
					}
					if want != api.OK {
						continue
					}
					if err := c.Call(x); err != api.ErrState {
						t.Errorf("memory %d: another call: %d", i, err)
					}
					if r, ended, err := c.Step(); r != (api.Reply{Err: api.ErrArg}) || !ended || err != api.OK {
						t.Fatalf("memory %d: Step of %v: %v, %t, %d", i, x, r, ended, err)
					}
					if c.Pending() || c.Tries() != 0 {
						t.Errorf("memory %d: Pending %t, Tries %d behind the end", i, c.Pending(), c.Tries())
					}
					if r, ended, err := c.Step(); r != (api.Reply{}) || ended || err != api.ErrState {
						t.Errorf("memory %d: Step behind the end: %v, %t, %d", i, r, ended, err)
					}
				}
			}
		}
		if m.Steps() != 0 || m.Changes() != 0 {
			t.Errorf("memory %d: %d steps, %d changes", i, m.Steps(), m.Changes())
		}
	}
}

// P16.5: a memory that loses its words in the midst of a call, which no call of layer 8 does: the swap fails, and then the load ends the call.
func TestMemoryLosesItsWords(t *testing.T) {
	m := cell.New[*node.Node](1)
	c := New(m)
	c.Call(api.Call{Kind: api.Put, Key: "a"})
	c.Step()
	*m = cell.Memory[*node.Node]{}
	if r, ended, err := c.Step(); r != (api.Reply{}) || ended || err != api.OK || c.Tries() != 1 {
		t.Errorf("the swap: %v, %t, %d", r, ended, err)
	}
	if r, ended, err := c.Step(); r != (api.Reply{Err: api.ErrArg}) || !ended || err != api.OK {
		t.Errorf("the load: %v, %t, %d", r, ended, err)
	}
}

// R6: the same calls and steps have the same results, whatever is done in another memory meanwhile.
func TestSameAgain(t *testing.T) {
	for seed := range int64(10) {
		first := worldOf(t, 4, ofHeight(t, 2))
		seeded(first, seed, 7, 300)
		again, other := worldOf(t, 4, ofHeight(t, 2)), worldOf(t, 2, letters(t, "xyz"))
		for i, d := range first.done {
			if i%10 == 0 {
				seeded(other, seed+int64(i), 3, 5)
			}
			if d.step {
				again.step(d.who)
			} else {
				again.call(d.who, d.x)
			}
		}
		if !slices.Equal(first.done, again.done) {
			t.Errorf("seed %d: something else came of it", seed)
		}
	}
}

// scripted does what bytes say: begin calls and perform steps of four clients, or store a tree that was the root before.
func scripted(t testing.TB, entries uint8, script []byte) {
	var start *node.Node
	for i := range int(entries) {
		start = put(t, start, number(i), strconv.Itoa(i%3))
	}
	w := worldOf(t, 4, start)
	for len(script) > 1 {
		do, with := script[0], int(script[1])
		script = script[2:]
		who := int(do) % 4
		switch do / 4 % 8 {
		case 0, 1, 2:
			w.call(who, api.Call{Kind: 1 + with%5, Key: number(with / 5 % 10), Value: strconv.Itoa(with % 3)})
		case 3:
			w.call(who, api.Call{Kind: with - 128, Key: strings.Repeat("k", with%27), Value: strings.Repeat("v", 4*with%403)})
		case 4:
			if len(w.roots) < 60 {
				w.store(w.roots[with%len(w.roots)].n)
			}
		default:
			for range with % 8 {
				w.step(who)
			}
		}
	}
	w.finish()
}

// P16.1 to P16.5: comparison with the plain record, for whatever bytes say.
func FuzzAnySteps(f *testing.F) {
	f.Add(uint8(0), []byte{0, 1, 20, 2, 1, 6, 21, 2, 20, 1})
	f.Add(uint8(5), []byte{0, 1, 20, 3, 1, 6, 21, 7, 20, 7, 16, 0, 2, 3, 22, 7, 12, 130})
	f.Add(uint8(30), []byte{0, 42, 1, 43, 2, 44, 20, 4, 21, 4, 22, 4, 20, 1, 21, 1, 22, 1, 3, 12, 23, 7})
	f.Fuzz(func(t *testing.T, entries uint8, script []byte) {
		scripted(t, entries%60, script[:min(len(script), 400)])
	})
}
