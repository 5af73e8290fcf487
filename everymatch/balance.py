"""Binary trees that are kept in balance: their leaves are a row, and of each pair the sides' heights differ
by at most one.

A tree tells height and width, and a pair, whose height is above 0, its sides as left and right and, so that the
left one need not be read, the left one's width. A maker has read(tree), which returns the tree, and
pair(left, right), which makes a pair of two trees that have been read: so it can tell how often one looks at trees.
"""


def even(maker, leaves):
    """The tree of some leaves, one or more, of which each pair's first side has half of them, the greater half."""
    if len(leaves) == 1:
        return leaves[0]
    half = (len(leaves) + 1) // 2
    left = even(maker, leaves[:half])
    right = even(maker, leaves[half:])
    return maker.pair(maker.read(left), maker.read(right))


def paired(maker, left, right):
    """The tree of two trees whose heights differ by at most two."""
    left = maker.read(left)
    right = maker.read(right)
    if left.height > right.height + 1:
        return _leaning_left(maker, left, right)
    if right.height > left.height + 1:
        return _leaning_right(maker, left, right)
    return maker.pair(left, right)


def _leaning_left(maker, left, right):
    """The tree of two trees, the left one two higher than the right one."""
    outer = maker.read(left.left)
    inner = maker.read(left.right)
    if outer.height >= inner.height:
        return maker.pair(outer, maker.pair(inner, right))
    first = maker.pair(outer, maker.read(inner.left))
    second = maker.pair(maker.read(inner.right), right)
    return maker.pair(first, second)


def _leaning_right(maker, left, right):
    """The tree of two trees, the right one two higher than the left one."""
    inner = maker.read(right.left)
    outer = maker.read(right.right)
    if outer.height >= inner.height:
        return maker.pair(maker.pair(left, inner), outer)
    first = maker.pair(left, maker.read(inner.left))
    second = maker.pair(maker.read(inner.right), outer)
    return maker.pair(first, second)


def joined(maker, left, right):
    """The tree of two trees of any heights."""
    left = maker.read(left)
    right = maker.read(right)
    if left.height > right.height + 1:
        return paired(maker, left.left, joined(maker, left.right, right))
    if right.height > left.height + 1:
        return paired(maker, joined(maker, left, right.left), right.right)
    return maker.pair(left, right)


def cut(maker, tree, many):
    """The trees of so many first leaves and of the others, None for no leaf."""
    tree = maker.read(tree)
    if many == 0:
        return (None, tree)
    if many == tree.width:
        return (tree, None)
    if many < tree.left_width:
        first, rest = cut(maker, tree.left, many)
        return (first, joined(maker, rest, tree.right))
    first, rest = cut(maker, tree.right, many - tree.left_width)
    return (tree.left if first is None else joined(maker, tree.left, first), rest)


def put(maker, tree, place, leaf):
    """The tree with a leaf more at the place, None being the tree without leaves."""
    if tree is None:
        return leaf
    tree = maker.read(tree)
    if tree.height == 0:
        return paired(maker, leaf, tree) if place == 0 else paired(maker, tree, leaf)
    if place <= tree.left_width:
        return paired(maker, put(maker, tree.left, place, leaf), tree.right)
    return paired(maker, tree.left, put(maker, tree.right, place - tree.left_width, leaf))


def taken(maker, tree, place):
    """The tree without the leaf at the place, None if it was the only one."""
    tree = maker.read(tree)
    if tree.height == 0:
        return None
    if place < tree.left_width:
        rest = taken(maker, tree.left, place)
        return tree.right if rest is None else paired(maker, rest, tree.right)
    rest = taken(maker, tree.right, place - tree.left_width)
    return tree.left if rest is None else paired(maker, tree.left, rest)
