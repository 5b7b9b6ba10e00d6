package tree

// node is a thing with the things ahead of it and those behind it. No node changes once it is made, so trees may share it. The levels of left and right differ by one at most: that bounds the height by the size alone, whatever the sums are.
type node[T Item[M], M Sum[M]] struct {
	item         T
	left, right  *node[T, M]
	size, height int
	sum          M
}

func count[T Item[M], M Sum[M]](n *node[T, M]) int {
	if n == nil {
		return 0
	}
	return n.size
}

func levels[T Item[M], M Sum[M]](n *node[T, M]) int {
	if n == nil {
		return 0
	}
	return n.height
}

func total[T Item[M], M Sum[M]](n *node[T, M]) M {
	if n == nil {
		var zero M
		return zero
	}
	return n.sum
}

// branch makes a node of sides whose levels differ by one at most.
func branch[T Item[M], M Sum[M]](left *node[T, M], item T, right *node[T, M]) *node[T, M] {
	return &node[T, M]{
		item:   item,
		left:   left,
		right:  right,
		size:   count(left) + 1 + count(right),
		height: max(levels(left), levels(right)) + 1,
		sum:    total(left).Add(item.Measure()).Add(total(right)),
	}
}

// build makes a subtree by halves: it copies the items one by one, so the list is not kept.
func build[T Item[M], M Sum[M]](items []T) *node[T, M] {
	if len(items) == 0 {
		return nil
	}
	mid := len(items) / 2
	return branch(build[T, M](items[:mid]), items[mid], build[T, M](items[mid+1:]))
}

// level makes a node of sides whose levels differ by two at most, as they do where one side has gained or lost a level.
func level[T Item[M], M Sum[M]](left *node[T, M], item T, right *node[T, M]) *node[T, M] {
	switch lean := levels(left) - levels(right); {
	case lean > 1:
		return turnRight(left, item, right)
	case lean < -1:
		return turnLeft(left, item, right)
	}
	return branch(left, item, right)
}

// turnRight makes a node of a left side that is two levels higher: one level goes over to the right.
func turnRight[T Item[M], M Sum[M]](left *node[T, M], item T, right *node[T, M]) *node[T, M] {
	inner := left.right
	if levels(left.left) >= levels(inner) {
		return branch(left.left, left.item, branch(inner, item, right))
	}
	return branch(branch(left.left, left.item, inner.left), inner.item, branch(inner.right, item, right))
}

// turnLeft makes a node of a right side that is two levels higher: one level goes over to the left.
func turnLeft[T Item[M], M Sum[M]](left *node[T, M], item T, right *node[T, M]) *node[T, M] {
	inner := right.left
	if levels(right.right) >= levels(inner) {
		return branch(branch(left, item, inner), right.item, right.right)
	}
	return branch(branch(left, item, inner.left), inner.item, branch(inner.right, right.item, right.right))
}

// join makes a subtree of sides of any levels. It goes down the higher one only as far as they differ, and answers one level more than the higher one at most: so level can mend each step on the way back.
func join[T Item[M], M Sum[M]](left *node[T, M], item T, right *node[T, M]) *node[T, M] {
	switch lean := levels(left) - levels(right); {
	case lean > 1:
		return level(left.left, left.item, join(left.right, item, right))
	case lean < -1:
		return level(join(left, item, right.left), right.item, right.right)
	}
	return branch(left, item, right)
}

// concat makes a subtree of the things of both.
func concat[T Item[M], M Sum[M]](left, right *node[T, M]) *node[T, M] {
	if left == nil {
		return right
	}
	if right == nil {
		return left
	}
	item, rest := first(right)
	return join(left, item, rest)
}

// first parts the first thing of a subtree that has one from the others.
func first[T Item[M], M Sum[M]](n *node[T, M]) (T, *node[T, M]) {
	if n.left == nil {
		return n.item, n.right
	}
	item, rest := first(n.left)
	return item, level(rest, n.item, n.right)
}

// head makes a subtree of the first i things.
func head[T Item[M], M Sum[M]](n *node[T, M], i int) *node[T, M] {
	if i <= 0 {
		return nil
	}
	if i >= count(n) {
		return n
	}
	ahead := count(n.left)
	if i <= ahead {
		return head(n.left, i)
	}
	return join(n.left, n.item, head(n.right, i-ahead-1))
}

// tail makes a subtree of the things behind the first i.
func tail[T Item[M], M Sum[M]](n *node[T, M], i int) *node[T, M] {
	if i <= 0 {
		return n
	}
	if i >= count(n) {
		return nil
	}
	ahead := count(n.left)
	if i > ahead {
		return tail(n.right, i-ahead-1)
	}
	return join(tail(n.left, i), n.item, n.right)
}

// walk hands out the things behind the first from, and tells whether it was let go on to the end.
func walk[T Item[M], M Sum[M]](n *node[T, M], from int, yield func(T) bool) bool {
	if from >= count(n) {
		return true
	}
	ahead := count(n.left)
	if !walk(n.left, from, yield) {
		return false
	}
	if from <= ahead && !yield(n.item) {
		return false
	}
	return walk(n.right, max(from-ahead-1, 0), yield)
}
