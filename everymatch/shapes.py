"""Shapes of the binary trees in which rows of children stand: what they tell, and how they are kept in balance."""

from everymatch.balance import cut
from everymatch.balance import even
from everymatch.balance import joined
from everymatch.balance import put
from everymatch.balance import taken
from everymatch.basics import MOST_NODES
from everymatch.basics import is_number
from everymatch.basics import parents_in
from everymatch.basics import rows_in
from everymatch.documents import check_document
from everymatch.errors import BadBalance
from everymatch.errors import BadCount
from everymatch.errors import BadShape

MOST_HEIGHT = 40


class Measured:
    """A shape with its height and its width, and likewise its sides."""

    def __init__(self, height, width, left, right):
        self.height = height
        self.width = width
        self.left = left
        self.right = right
        self.left_width = 0 if left is None else left.width


class Measurer:
    """A maker of measured shapes."""

    def read(self, tree):
        """The tree."""
        return tree

    def pair(self, left, right):
        """The pair of two trees."""
        return Measured(max(left.height, right.height) + 1, left.width + right.width, left, right)


def is_shape(thing):
    """Whether it is a shape."""
    width = 0
    waiting = [(thing, 0)]
    # One child after the other is found: so what is far too wide or too high is left before it is gone through.
    while waiting:
        part, above = waiting.pop()
        if part is None:
            width += 1
        elif isinstance(part, tuple) and len(part) == 2 and above < MOST_HEIGHT:
            waiting.append((part[1], above + 1))
            waiting.append((part[0], above + 1))
        else:
            return False
        if width > MOST_NODES:
            return False
    return True


def _check_shape(thing):
    """Raise BadShape if it is no shape."""
    if not is_shape(thing):
        raise BadShape("this is no shape")


def _measured(shape):
    """The shape with the heights and widths of all its parts."""
    if shape is None:
        return Measured(0, 1, None, None)
    return Measurer().pair(_measured(shape[0]), _measured(shape[1]))


def _told(tree):
    """The shape of a measured one, () for none."""
    if tree is None:
        return ()
    return None if tree.height == 0 else (_told(tree.left), _told(tree.right))


def _is_even(tree):
    """Whether of each pair in it the sides' heights differ by at most one."""
    if tree.height == 0:
        return True
    return abs(tree.left.height - tree.right.height) <= 1 and _is_even(tree.left) and _is_even(tree.right)


def is_balanced(shape):
    """Whether the shape is balanced."""
    _check_shape(shape)
    return _is_even(_measured(shape))


def width_of(shape):
    """How many children the shape has."""
    _check_shape(shape)
    return _measured(shape).width


def height_of(shape):
    """The shape's height."""
    _check_shape(shape)
    return _measured(shape).height


def tallest(width):
    """The greatest height of a balanced shape of this width."""
    if not is_number(width) or width > MOST_NODES:
        raise BadCount("this is no integer from 0 to 20,000")
    return _tallest(width)


def _tallest(width):
    """tallest of what is known to be a width."""
    height = 0
    # The fewest children of a balanced shape of this height, and of one that is one higher.
    fewest = 1
    higher = 2
    while higher <= width:
        fewest, higher = higher, fewest + higher
        height += 1
    return height


def even_shape(width):
    """The balanced shape of which each pair's first side has half of the width, the greater half."""
    if not is_number(width) or width == 0 or width > MOST_NODES:
        raise BadCount("this is no integer from 1 to 20,000")
    return _told(even(Measurer(), [_measured(None)] * width))


def _balanced(shape, most):
    """The shape, measured; BadBalance if it is not balanced, or wider than most."""
    _check_shape(shape)
    tree = _measured(shape)
    if not _is_even(tree):
        raise BadBalance("this shape is not balanced")
    if tree.width > most:
        raise BadBalance("there would be more than 20,000 children")
    return tree


def _check_place(place, many):
    """Raise BadCount if it is no integer from 0 to below so many."""
    if not is_number(place) or place >= many:
        raise BadCount("the shape has no such place")


def joined_shapes(shape, other):
    """A balanced shape of the children of one and, behind them, of the other one."""
    first = _balanced(shape, MOST_NODES)
    second = _balanced(other, MOST_NODES - first.width)
    return _told(joined(Measurer(), first, second))


def cut_shape(shape, many):
    """The pair of balanced shapes of so many first children and of the others, () for none."""
    tree = _balanced(shape, MOST_NODES)
    _check_place(many, tree.width + 1)
    first, rest = cut(Measurer(), tree, many)
    return (_told(first), _told(rest))


def put_shape(shape, place):
    """A balanced shape with one child more, put at the place; () is the shape of no child."""
    tree = None if _is_none(shape) else _balanced(shape, MOST_NODES - 1)
    _check_place(place, 1 if tree is None else tree.width + 1)
    return _told(put(Measurer(), tree, place, _measured(None)))


def _is_none(thing):
    """Whether it is the shape of no child."""
    return isinstance(thing, tuple) and len(thing) == 0


def taken_shape(shape, place):
    """A balanced shape without the child at the place, () if it was the only one."""
    tree = _balanced(shape, MOST_NODES)
    _check_place(place, tree.width)
    return _told(taken(Measurer(), tree, place))


def reach(document):
    """The greatest sum of 1 + tallest(how many children) over a node, all nodes above it, and the top."""
    check_document(document)
    rows = rows_in(document)
    top = 1 + _tallest(len(rows[None]))
    sums = []
    for node, parent in enumerate(parents_in(document)):
        sums.append((top if parent is None else sums[parent]) + 1 + _tallest(len(rows[node])))
    return max([top, *sums])
