package lpm

// node is where the bits from the root on lead to, and the tree behind it; nil is a tree that holds no key. Each other one holds some, so that what is taken out leaves nothing behind.
type node struct {
	next [2]*node // by the bit that comes next
	held bool     // a key ends here
	slot int      // that key's
}

// longest: the slot of the longest key whose path begins this one.
func (n *node) longest(path []int) (int, bool) {
	if n == nil {
		return 0, false
	}
	if len(path) > 0 {
		if slot, held := n.next[path[0]].longest(path[1:]); held {
			return slot, true
		}
	}
	return n.slot, n.held
}

// at: the slot of the key that has this path.
func (n *node) at(path []int) (int, bool) {
	if n == nil {
		return 0, false
	}
	if len(path) > 0 {
		return n.next[path[0]].at(path[1:])
	}
	return n.slot, n.held
}

// with: the tree, to which a key is added.
func (n *node) with(path []int, slot int) *node {
	if n == nil {
		n = &node{}
	}
	if len(path) > 0 {
		n.next[path[0]] = n.next[path[0]].with(path[1:], slot)
		return n
	}
	n.held, n.slot = true, slot
	return n
}

// without: the tree, from which a key that it holds is taken.
func (n *node) without(path []int) *node {
	if len(path) > 0 {
		n.next[path[0]] = n.next[path[0]].without(path[1:])
	} else {
		n.held, n.slot = false, 0
	}
	if !n.held && n.next == [2]*node{} {
		return nil
	}
	return n
}

// each: tells of every key; a path that is told is good until the teller comes back.
func (n *node) each(path []int, tell func(path []int, slot int)) {
	if n == nil {
		return
	}
	if n.held {
		tell(path, n.slot)
	}
	for bit, next := range n.next {
		next.each(append(path, bit), tell)
	}
}

// twin: an equal tree that shares nothing with this one.
func (n *node) twin() *node {
	if n == nil {
		return nil
	}
	t := *n
	for bit, next := range n.next {
		t.next[bit] = next.twin()
	}
	return &t
}
