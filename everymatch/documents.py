"""Documents: forests of marked nodes, told as tuples of (mark, depth) in reading order."""

from everymatch.basics import MOST_NODES
from everymatch.basics import is_mark
from everymatch.basics import is_node
from everymatch.basics import is_number
from everymatch.basics import parents_in
from everymatch.basics import piece_in
from everymatch.basics import place_in
from everymatch.basics import row_of
from everymatch.basics import rows_in
from everymatch.errors import BadDocument
from everymatch.errors import BadNode
from everymatch.errors import BadNodes
from everymatch.errors import BadPlace
from everymatch.errors import BadText


def is_document(thing):
    """Whether it is a document."""
    if not isinstance(thing, tuple) or len(thing) > MOST_NODES:
        return False
    deepest = 0
    for entry in thing:
        if not _is_entry(entry) or entry[1] > deepest:
            return False
        deepest = entry[1] + 1
    return True


def _is_entry(thing):
    """Whether it is a pair of a mark and an integer from 0 on."""
    return isinstance(thing, tuple) and len(thing) == 2 and is_mark(thing[0]) and is_number(thing[1])


def check_document(thing):
    """Raise BadDocument if it is no document."""
    if not is_document(thing):
        raise BadDocument("this is no document")


def check_node(document, thing):
    """Raise BadNode if it is no node of the document."""
    if not is_node(document, thing):
        raise BadNode("this is no node of the document")


def check_nodes(document, nodes, many):
    """Raise BadNodes if it is no tuple of so many nodes of the document."""
    if not isinstance(nodes, tuple) or len(nodes) != many:
        raise BadNodes("this is no tuple of as many nodes as there are names")
    if not all([is_node(document, node) for node in nodes]):
        raise BadNodes("one of these is no node of the document")


def parents(document):
    """The tuple of the nodes' parents, None for those at the top."""
    check_document(document)
    return tuple(parents_in(document))


def children(document, node):
    """The ascending tuple of the children of a node, or of the top for None."""
    check_document(document)
    if node is not None:
        check_node(document, node)
    return tuple(row_of(document, node))


def sizes(document):
    """The tuple, for each node, of how many nodes its piece has."""
    check_document(document)
    above = parents_in(document)
    found = [1] * len(document)
    # A node stands behind its parent: from the last one on each sum is whole when it is passed up.
    for node in reversed(range(len(document))):
        if above[node] is not None:
            found[above[node]] += found[node]
    return tuple(found)


def place_of(document, node):
    """The place (parent, which) of a node."""
    check_document(document)
    check_node(document, node)
    return place_in(document, node)


def node_at(document, place):
    """The node at a place."""
    check_document(document)
    if not isinstance(place, tuple) or len(place) != 2:
        raise BadPlace("a place is a pair of a parent and a number")
    parent, which = place
    if parent is not None and not is_node(document, parent):
        raise BadPlace("the parent is no node of the document")
    row = row_of(document, parent)
    if not is_number(which) or which >= len(row):
        raise BadPlace("there is no such child")
    return row[which]


def write_document(document):
    """The text of a document."""
    check_document(document)
    parts = []
    ahead = 0
    for node, (mark, depth) in enumerate(document):
        if depth > ahead:
            parts.append("(")
        elif node > 0:
            parts.append(")" * (ahead - depth) + " ")
        parts.append(mark)
        ahead = depth
    parts.append(")" * ahead)
    return "".join(parts)


def read_document(text):
    """The document of which a text is told; BadText where it goes wrong."""
    if not isinstance(text, str):
        raise BadText(0)
    entries = []
    depth = 0
    awaited = True
    for place, sign in enumerate(text):
        # Where a mark is awaited nothing else may stand, and a mark may stand nowhere else.
        if awaited != is_mark(sign):
            raise BadText(place)
        if awaited:
            entries.append((sign, depth))
        elif sign == ")" and depth > 0:
            depth -= 1
        elif sign == "(" and text[place - 1] != ")":
            depth += 1
        elif sign != " ":
            raise BadText(place)
        awaited = sign in ("(", " ")
    cut_short = depth > 0 or (awaited and len(text) > 0)
    if cut_short or len(entries) > MOST_NODES:
        raise BadText(len(text))
    return tuple(entries)


def piece_of(document, node):
    """The piece of a node: it and all below it, the node's depth taken off."""
    check_document(document)
    check_node(document, node)
    return piece_in(document, node)


def flipped(document):
    """The document in which all rows of children go the other way."""
    check_document(document)
    rows = rows_in(document)
    waiting = list(rows[None])
    entries = []
    # The last child that waits is taken first: so each row is read from its end.
    while waiting:
        node = waiting.pop()
        entries.append(document[node])
        waiting.extend(rows[node])
    return tuple(entries)


def depth_of(document):
    """How many nodes the longest way down has."""
    check_document(document)
    return max([depth + 1 for _, depth in document], default=0)


def breadth_of(document):
    """The greatest number of children of a node, or of the top."""
    check_document(document)
    return max([len(row) for row in rows_in(document).values()])
