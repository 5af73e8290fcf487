"""The parts of a document that is kept: nodes, the top, and the pairs of the trees in which rows of children stand.

Parts are never changed: an edit makes those above its place anew. So a copy, or an elder edition, shares the
others. Each part has its table of ways: a node how many ways lead to each state, a pair how many lead from
each state to each other one, along its row.
"""

from everymatch.balance import even
from everymatch.balance import put
from everymatch.balance import taken


class Node:
    """A node with the row of its children, None for none; the top is one without a label.

    Forced is the lay of the names that stand at it for sure.
    """

    def __init__(self, label, forced, row, ways):
        self.label = label
        self.forced = forced
        self.row = row
        self.ways = ways
        self.many = (0 if label is None else 1) + (0 if row is None else row.many)
        self.height = 0
        self.width = 1


class Pair:
    """Two stretches of a row side by side, and the states from which the row may go on there."""

    def __init__(self, left, right, starts, ways):
        self.left = left
        self.right = right
        self.before = starts
        self.ways = ways
        self.many = left.many + right.many
        self.height = max(left.height, right.height) + 1
        self.width = left.width + right.width
        self.left_width = left.width
        self.left_many = left.many


class Tally:
    """How many parts were looked at."""

    def __init__(self):
        self.many = 0

    def told(self):
        """How many since it was told last."""
        many = self.many
        self.many = 0
        return many


class Keeper:
    """Reads and makes parts, and counts each time: who makes a pair has read its sides."""

    def __init__(self, reading, tally):
        self.reading = reading
        self.tally = tally

    def read(self, part):
        """The part."""
        self.tally.many += 1
        return part

    def begun(self, node):
        """The list of (lay, state) in which the node begins, its forced names among each lay."""
        forced = node.forced
        return [(lay, state) for lay, state in self.reading.begun(node.label) if lay & forced == forced]

    def ways_from(self, part, state):
        """How many ways lead from the state to each other one along a stretch, or by a child."""
        if part.height > 0:
            return part.ways[state]
        found = {}
        for by, number in part.ways.items():
            after = self.reading.step(state, by)
            if after is not None:
                found[after] = found.get(after, 0) + number
        return found

    def node(self, label, forced, row):
        """Make a node, or the top."""
        made = Node(label, forced, None if row is None else self.read(row), {})
        self.tally.many += 1
        for _, state in self.begun(made):
            ways = {state: 1} if row is None else self.ways_from(row, state)
            for after, number in ways.items():
                made.ways[after] = made.ways.get(after, 0) + number
        return made

    def pair(self, left, right, starts):
        """Make a pair of two stretches."""
        self.tally.many += 1
        ways = {}
        onward = {}
        for state in starts:
            found = {}
            for after, number in self.ways_from(left, state).items():
                if after not in onward:
                    onward[after] = self.ways_from(right, after)
                for end, times in onward[after].items():
                    found[end] = found.get(end, 0) + number * times
            ways[state] = found
        return Pair(left, right, starts, ways)


class RowMaker:
    """A maker of trees in balance, for rows that are edited: they go on from all states that may come."""

    def __init__(self, keeper, label):
        self._keeper = keeper
        self._starts = keeper.reading.starts(label)

    def read(self, tree):
        """The tree."""
        return self._keeper.read(tree)

    def pair(self, left, right):
        """Make a pair of two trees."""
        return self._keeper.pair(left, right, self._starts)


def even_row(keeper, label, leaves):
    """The tree of a row of some nodes below a label, or of the top's row, for rows that are edited."""
    return even(RowMaker(keeper, label), leaves)


def lean_row(keeper, label, leaves):
    """The same for rows that are not edited: each stretch goes on from those states alone that come to it."""
    starts = [state for _, state in keeper.reading.begun(label)]
    return _lean(keeper, leaves, starts)


def _lean(keeper, leaves, starts):
    """The tree of some leaves, one or more, that go on from these states."""
    if len(leaves) == 1:
        return leaves[0]
    half = (len(leaves) + 1) // 2
    left = _lean(keeper, leaves[:half], starts)
    keeper.read(left)
    ends = {}
    for state in starts:
        for after in keeper.ways_from(left, state):
            ends[after] = True
    right = _lean(keeper, leaves[half:], list(ends))
    return keeper.pair(left, keeper.read(right), starts)


def built(keeper, entries, grown):
    """The top of a forest told by (label, depth) in reading order, its rows grown by one of the two above."""
    waiting = {}
    # From the last node on: a node's children are made ahead of it, the last one first.
    for label, depth in reversed([(None, -1), *entries]):
        leaves = waiting.pop(depth + 1, [])
        row = grown(keeper, label, leaves[::-1]) if leaves else None
        waiting.setdefault(depth, []).append(keeper.node(label, 0, row))
    return waiting[-1][0]


def path_to(keeper, top, node):
    """The list of (part, whether it goes on to the right) on the way from the top to a node, it included."""
    path = []
    part = keeper.read(top)
    rest = node + 1
    while True:
        if part.height > 0:
            right = rest > part.left_many
            path.append((part, right))
            rest -= part.left_many if right else 0
            part = keeper.read(part.right if right else part.left)
            continue
        path.append((part, False))
        rest -= 0 if part.label is None else 1
        if rest == 0:
            return path
        part = keeper.read(part.row)


def replaced(keeper, path, part):
    """The top when the part at the end of a path, on which it is not, has become another one."""
    for old, right in reversed(path):
        if old.height > 0:
            left_part = keeper.read(old.left if right else part)
            right_part = keeper.read(part if right else old.right)
            part = keeper.pair(left_part, right_part, old.before)
        else:
            part = keeper.node(old.label, old.forced, part)
    return part


def laid(keeper, path, name):
    """The top when the name, told as a lay, stands for sure at the node to which the path goes."""
    node = path[-1][0]
    return replaced(keeper, path[:-1], keeper.node(node.label, node.forced | name, node.row))


def edited_top(keeper, top, edit):
    """The top behind an edit that fits."""
    word = edit[0]
    if word == "put":
        piece = built(keeper, edit[2], even_row)
        return _with_part(keeper, top, edit[1], piece.row)
    if word == "mark":
        path = path_to(keeper, top, edit[1])
        return replaced(keeper, path[:-1], keeper.node(edit[2], 0, path[-1][0].row))
    top, part = _without_part(keeper, top, edit[1])
    return top if word == "take" else _with_part(keeper, top, edit[2], part)


def _with_part(keeper, top, place, part):
    """The top when a node with all below it is put at the place."""
    parent, which = place
    path = [(keeper.read(top), False)] if parent is None else path_to(keeper, top, parent)
    above = path[-1][0]
    row = put(RowMaker(keeper, above.label), above.row, which, part)
    return replaced(keeper, path[:-1], keeper.node(above.label, 0, row))


def _without_part(keeper, top, node):
    """(the top when a node with all below it is gone, this node)."""
    path = path_to(keeper, top, node)
    part = path.pop()[0]
    which = 0
    while path[-1][0].height > 0:
        pair, right = path.pop()
        which += pair.left_width if right else 0
    above = path.pop()[0]
    row = taken(RowMaker(keeper, above.label), above.row, which)
    return (replaced(keeper, path, keeper.node(above.label, 0, row)), part)


def shapes_of(keeper, top):
    """The list of the shapes in which children stand, the top's first, then by nodes; () for none."""
    found = []
    waiting = [top]
    while waiting:
        node = keeper.read(waiting.pop())
        leaves = []
        found.append(() if node.row is None else _shape(keeper, node.row, leaves))
        waiting.extend(leaves[::-1])
    return found


def _shape(keeper, part, leaves):
    """The shape of a stretch; its nodes are added to the leaves."""
    keeper.read(part)
    if part.height == 0:
        leaves.append(part)
        return None
    return (_shape(keeper, part.left, leaves), _shape(keeper, part.right, leaves))
