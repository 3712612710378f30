package delta

// root: the node that no byte leads to.
const root = 0

// node: a place where what stands in old parts ways, or comes to old's end.
type node struct {
	// The bytes old[start:end] lead to it from the node above it.
	start, end int
	// The node that the same bytes but the first one lead to; root, while none is known.
	link int
}

// tree: all that stands in old, byte by byte from the root down (a suffix tree).
// What old has at many places is there once, so that no place of old has to be tried: that keeps runs of one byte from taking forever.
type tree struct {
	old   []byte
	nodes []node
	// By a node and a byte (see branch): the node that the byte leads to.
	below map[uint64]int
}

// grow answers the tree of old. It is Ukkonen's way, which takes time as old has bytes.
func grow(old []byte) *tree {
	// Old has mostly about as many nodes as bytes: room for them is made at once.
	nodes := append(make([]node, 0, len(old)+1), node{})
	t := &tree{old: old, nodes: nodes, below: make(map[uint64]int, len(old))}
	var g grower
	for place := range old {
		g.add(t, place)
	}
	return t
}

// longest answers the greatest number of bytes at b's beginning that stand in old, and the first place where they do.
func (t *tree) longest(b []byte) (place, size int) {
	at := root
	for size < len(b) {
		next, found := t.below[branch(at, b[size])]
		if !found {
			break
		}
		n := t.nodes[next]
		// A node's bytes are those of its first place (see split): it begins as many bytes ahead of start as led here.
		place = n.start - size
		same := alike(t.old[n.start:n.end], b[size:])
		size += same
		if same < n.end-n.start {
			break
		}
		at = next
	}
	return place, size
}

// branch answers the key of what is below a node by a byte.
func branch(at int, c byte) uint64 {
	return uint64(at)<<8 | uint64(c)
}

// alike answers how many bytes at the beginnings of a and b are the same.
func alike(a, b []byte) int {
	most := min(len(a), len(b))
	for i := range most {
		if a[i] != b[i] {
			return i
		}
	}
	return most
}

// hang adds a node that old[start:end] leads to from the one above it.
func (t *tree) hang(above, start, end int) int {
	t.nodes = append(t.nodes, node{start: start, end: end})
	added := len(t.nodes) - 1
	t.below[branch(above, t.old[start])] = added
	return added
}

// split puts a node between the one above and lower, size bytes behind the one above.
// Its bytes are lower's, which came first: what hangs below it later stands at a later place in old.
func (t *tree) split(above, lower, size int) int {
	start := t.nodes[lower].start
	middle := t.hang(above, start, start+size)
	t.nodes[lower].start = start + size
	t.below[branch(middle, t.old[start+size])] = lower
	return middle
}

// grower: how far a tree has grown.
type grower struct {
	// How many ends of what was added stand in the tree only as parts of earlier bytes.
	waiting int
	// The longest of them ends size bytes below the node at, on the way that begins with old[edge].
	at, edge, size int
}

// add has old's byte at the place follow each of the ends.
func (g *grower) add(t *tree, place int) {
	g.waiting++
	unlinked := root
	for g.waiting > 0 {
		if g.size == 0 {
			g.edge = place
		}
		lower, found := t.below[branch(g.at, t.old[g.edge])]
		if found && g.descend(t, lower) {
			continue
		}
		above := g.at
		if found && t.old[t.nodes[lower].start+g.size] == t.old[place] {
			// Here the byte follows already, and so it does at all shorter ends.
			t.connect(unlinked, above)
			g.size++
			return
		}
		if found {
			above = t.split(above, lower, g.size)
		}
		t.hang(above, place, len(t.old))
		t.connect(unlinked, above)
		unlinked = above
		g.shorten(t, place)
	}
}

// descend goes down to the lower node, if the end isn't ahead of it.
func (g *grower) descend(t *tree, lower int) bool {
	n := t.nodes[lower]
	way := n.end - n.start
	if g.size < way {
		return false
	}
	g.at = lower
	g.edge += way
	g.size -= way
	return true
}

// shorten goes from an end that the byte at the place has followed to the next shorter one.
func (g *grower) shorten(t *tree, place int) {
	g.waiting--
	if g.at == root && g.size > 0 {
		g.size--
		g.edge = place - g.waiting + 1
		return
	}
	g.at = t.nodes[g.at].link
}

// connect tells the link of a node that waits for it.
func (t *tree) connect(unlinked, to int) {
	if unlinked != root {
		t.nodes[unlinked].link = to
	}
}
