"""Documents to try things on, objects that are none, and a plain second way to tell what is right.

The second way reads documents as nested lists [name, mark, children] and edits these lists.
"""

from functools import lru_cache
from itertools import product


class Same:
    """An object that says it is equal to all."""

    def __eq__(self, other):
        return True

    def __hash__(self):
        return 0


def row(many, mark="a"):
    return tuple((mark, 0) for _ in range(many))


def chain(many, mark="a"):
    return tuple((mark, node) for node in range(many))


def comb(many, mark="a"):
    """A chain each node of which has a leaf ahead of the next node of the chain."""
    return tuple((mark, (node + 1) // 2) for node in range(many))


GREAT = (row(20000), chain(20000), comb(20000))
TOO_GREAT = (row(20001), chain(20001), comb(20001))

# None of these is an integer, a tuple or a str.
ANY_OBJECTS = (True, False, b"", b"a", [], [0], {}, {0: 0}, {0}, object(), Same(), len, int)

NOT_DOCUMENTS = ANY_OBJECTS + TOO_GREAT + (
    None, 0, 1, -1, 10 ** 30, "", "a", "a(b)", ("a", 0), ("a",), (0,), (None,), ((),),
    [("a", 0)], (["a", 0],), (("a", 0), ["b", 1]), ((("a", 0),),), ((("a", 0), ("b", 0)),),
    (("a",),), (("a", 0, 0),), (("a", 0), ("b", 1, None)), ((0, "a"),),
    (("a", True),), (("a", False),), (("a", 0), ("b", True)), (("a", None),), (("a", "0"),), (("a", (0,)),),
    (("a", Same()),), ((Same(), 0),), ((None, 0),), ((0, 0),), ((b"a", 0),), ((("a",), 0),), ((["a"], 0),),
    (("", 0),), (("i", 0),), (("A", 0),), (("ab", 0),), ((" ", 0),), (("(", 0),), (("abcdefgh", 0),),
    (("a", 1),), (("a", -1),), (("a", 0), ("b", 2)), (("a", 0), ("b", -1)), (("a", 0), ("b", 1), ("c", 3)),
    (("a", 0), ("b", 1), ("c", 0), ("d", 2)), (("a", 10 ** 30),), (("a", 0), ("b", -10 ** 30)),
)

NOT_NODES = ANY_OBJECTS + ("", "0", (), (0,), (None,), -1, -10 ** 30, 10 ** 30)

NOT_MARKS = ANY_OBJECTS + (None, 0, 1, "", "i", "A", "ab", "abcdefgh", " ", "p", ("a",))


@lru_cache(maxsize=None)
def depths(many):
    """All rows of depths that a document of so many nodes can have."""
    if many == 0:
        return ((),)
    return tuple(ahead + (depth,) for ahead in depths(many - 1)
                 for depth in range(ahead[-1] + 2 if ahead else 1))


def all_documents(most, marks="a"):
    """All documents of at most so many nodes with these marks."""
    return [tuple(zip(signs, below)) for many in range(most + 1) for below in depths(many)
            for signs in product(marks, repeat=many)]


def lettered(most):
    """One document of each form of at most so many nodes, the marks going around."""
    return [tuple(("abcdefgh"[node % 8], depth) for node, depth in enumerate(below))
            for many in range(most + 1) for below in depths(many)]


def to_trees(document, names=None):
    """The row of trees [name, mark, children] at the top; a node's name is its number if none is told."""
    top = []
    path = []
    for node, (mark, depth) in enumerate(document):
        tree = [node if names is None else names, mark, []]
        path = path[:depth]
        (path[-1][2] if path else top).append(tree)
        path.append(tree)
    return top


def walk(trees, depth=0):
    """All of the trees' nodes in reading order, as (tree, depth, its row, its place in the row)."""
    found = []
    for which, tree in enumerate(trees):
        found.append((tree, depth, trees, which))
        found.extend(walk(tree[2], depth + 1))
    return found


def from_trees(trees):
    """The document of a row of trees, and the names along it."""
    nodes = walk(trees)
    return (tuple((tree[1], depth) for tree, depth, _, _ in nodes), [tree[0] for tree, _, _, _ in nodes])


def tried(document, edit):
    """The edited document and the elder names along it (None for new nodes), or None if it does not fit."""
    top = to_trees(document)
    try:
        return from_trees(edited_trees(top, edit))
    except LookupError:
        return None


def edited_trees(top, edit):
    """The row of trees behind an edit; LookupError if it does not fit."""
    if edit[0] == "put":
        insert(top, edit[1], to_trees(edit[2], "new")[0])
        return top
    tree, _, trees, which = walk(top)[edit[1]]
    if edit[0] == "mark":
        tree[1] = edit[2]
        return top
    del trees[which]
    if edit[0] == "move":
        insert(top, edit[2], tree)
    return top


def insert(top, place, tree):
    """Insert the tree at the place; LookupError if there is no such place."""
    parent, which = place
    trees = top if parent is None else walk(top)[parent][0][2]
    if which > len(trees):
        raise LookupError(place)
    trees.insert(which, tree)


PIECES = ((("h", 0),), (("g", 0), ("f", 1)), (("a", 0), ("b", 1), ("c", 2), ("d", 1)))


def edits_near(document):
    """Edits of all words, those that fit the document and those that miss it narrowly."""
    nodes = range(len(document) + 2)
    places = [(parent, which) for parent in (None, *nodes) for which in nodes]
    return ([("mark", node, mark) for node in nodes for mark in "ah"]
            + [("take", node) for node in nodes]
            + [("put", place, piece) for place in places for piece in PIECES]
            + [("move", node, place) for node in nodes for place in places])
