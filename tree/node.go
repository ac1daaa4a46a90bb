package tree

import "cmp"

// entry: a key and what it stands for.
type entry struct {
	key string
	n   int
}

// node: an entry between those of lesser and those of greater keys; a nil one is none. Trees share nodes, so a node that has been made is never changed. In a tree one side of a node is deeper than the other by one at most.
type node struct {
	entry
	less, more *node
	deep, size int
}

// height tells how deep a node is, a nil one too.
func (at *node) height() int {
	if at == nil {
		return 0
	}
	return at.deep
}

// count tells how many entries there are, of a nil node too.
func (at *node) count() int {
	if at == nil {
		return 0
	}
	return at.size
}

// find tells the node of a key, nil where there is none.
func (at *node) find(key string) *node {
	for at != nil && at.key != key {
		if key < at.key {
			at = at.less
		} else {
			at = at.more
		}
	}
	return at
}

// with makes anew the way to the entry, and shares what lies beside it.
func (at *node) with(e entry) *node {
	if at == nil {
		return join(e, nil, nil)
	}
	switch cmp.Compare(e.key, at.key) {
	case -1:
		return level(at.entry, at.less.with(e), at.more)
	case 1:
		return level(at.entry, at.less, at.more.with(e))
	}
	return join(e, at.less, at.more)
}

// without makes anew the way to a key that is there, and shares what lies beside it.
func (at *node) without(key string) *node {
	switch cmp.Compare(key, at.key) {
	case -1:
		return level(at.entry, at.less.without(key), at.more)
	case 1:
		return level(at.entry, at.less, at.more.without(key))
	}
	if at.more == nil {
		return at.less
	}
	next, more := at.more.takeFirst()
	return level(next, at.less, more)
}

// takeFirst tells the entry of the least key, and the rest without it.
func (at *node) takeFirst() (entry, *node) {
	if at.less == nil {
		return at.entry, at.more
	}
	first, less := at.less.takeFirst()
	return first, level(at.entry, less, at.more)
}

// addKeys puts the keys, rising, behind those that are there.
func (at *node) addKeys(keys []string) []string {
	if at == nil {
		return keys
	}
	return at.more.addKeys(append(at.less.addKeys(keys), at.key))
}

// join makes a node of an entry and its sides, as deep as they are.
func join(e entry, less, more *node) *node {
	return &node{
		entry: e,
		less:  less,
		more:  more,
		deep:  1 + max(less.height(), more.height()),
		size:  less.count() + 1 + more.count(),
	}
}

// level makes a node that a tree may have, where one side is deeper than the other by two at most: the top of a side that is too deep becomes the top of the whole.
func level(e entry, less, more *node) *node {
	lean := less.height() - more.height()
	switch {
	case lean == 2 && less.less.height() < less.more.height():
		// What lies between the two tops goes over to the other side whole, so it mustn't be the deepest part.
		less = raiseMore(less)
		fallthrough
	case lean == 2:
		return join(less.entry, less.less, join(e, less.more, more))
	case lean == -2 && more.more.height() < more.less.height():
		more = raiseLess(more)
		fallthrough
	case lean == -2:
		return join(more.entry, join(e, less, more.less), more.more)
	}
	return join(e, less, more)
}

// raiseMore makes the top of the greater side the top of the whole.
func raiseMore(at *node) *node {
	top := at.more
	return join(top.entry, join(at.entry, at.less, top.less), top.more)
}

// raiseLess makes the top of the lesser side the top of the whole.
func raiseLess(at *node) *node {
	top := at.less
	return join(top.entry, top.less, join(at.entry, top.more, at.more))
}
