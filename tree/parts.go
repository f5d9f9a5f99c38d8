package tree

import (
	"slices"

	"sapwood/api"
	"sapwood/node"
	"sapwood/pair"
)

// parts are what a node is to have after an update: entries or kids, never both. There may be too many for one node, or too few.
type parts struct {
	entries []api.Entry
	kids    []*node.Node
}

func partsOf(n *node.Node) parts {
	return parts{entries: n.Entries(), kids: n.Kids()}
}

// with returns the parts of n with the entry.
func with(n *node.Node, e api.Entry) parts {
	p := partsOf(n)
	if p.ofLeaf() {
		return parts{entries: pair.With(p.entries, e)}
	}
	at := kidFor(p.kids, e.Key)
	return p.replace(at, at+1, with(p.kids[at], e))
}

// without returns the parts of n without the entry with the key. A kid that is left with too little is joined with a neighbor, which every kid has.
func without(n *node.Node, key string) parts {
	p := partsOf(n)
	if p.ofLeaf() {
		entries, _ := pair.Without(p.entries, key)
		return parts{entries: entries}
	}
	at := kidFor(p.kids, key)
	rest := without(p.kids[at], key)
	switch {
	case rest.enough():
		return p.replace(at, at+1, rest)
	case at > 0:
		return p.replace(at-1, at+1, partsOf(p.kids[at-1]).join(rest))
	default:
		return p.replace(at, at+2, rest.join(partsOf(p.kids[at+1])))
	}
}

// ofLeaf reports whether these are the parts of a leaf. The parts of a branch are never left without a kid.
func (p parts) ofLeaf() bool {
	return len(p.kids) == 0
}

// enough reports whether a node of these parts would be sufficiently filled.
func (p parts) enough() bool {
	if p.ofLeaf() {
		return len(p.entries) >= api.LeafMin
	}
	return len(p.kids) >= api.BranchMin
}

// join returns the parts of both.
func (p parts) join(next parts) parts {
	return parts{
		entries: slices.Concat(p.entries, next.entries),
		kids:    slices.Concat(p.kids, next.kids),
	}
}

// replace returns the parts of a branch with the nodes of kid in place of the kids from an index up to another one.
func (p parts) replace(from, to int, kid parts) parts {
	return parts{kids: slices.Concat(p.kids[:from], kid.nodes(), p.kids[to:])}
}

// nodes makes one node of the parts, or two if they are too many for one.
func (p parts) nodes() []*node.Node {
	if p.ofLeaf() {
		return build(p.entries, api.LeafMax, node.Leaf)
	}
	return build(p.kids, api.BranchMax, node.Branch)
}

// root makes a tree of the parts of its root. A root with a single kid is not needed, so the height falls.
func (p parts) root() *node.Node {
	if p.ofLeaf() && len(p.entries) == 0 {
		return nil
	}
	if len(p.kids) == 1 {
		return p.kids[0]
	}
	nodes := p.nodes()
	if len(nodes) == 1 {
		return nodes[0]
	}
	root, _ := node.Branch(nodes)
	return root
}

// build makes a node of the list, or two nodes of its halves if it is too long for one. The list comes from nodes and an entry that are valid, so that there is no error.
func build[T any](l []T, most int, one func([]T) (*node.Node, api.Errno)) []*node.Node {
	if len(l) <= most {
		n, _ := one(l)
		return []*node.Node{n}
	}
	left, right := halves(l)
	first, _ := one(left)
	second, _ := one(right)
	return []*node.Node{first, second}
}

// halves cuts a list in the middle; the first half is the longer one if they differ.
func halves[T any](l []T) (first, second []T) {
	middle := (len(l) + 1) / 2
	return l[:middle], l[middle:]
}
