"""Edits of documents, and what two documents have to do with one another."""

from everymatch.basics import MOST_NODES
from everymatch.basics import depth_below
from everymatch.basics import end_of
from everymatch.basics import is_mark
from everymatch.basics import is_node
from everymatch.basics import is_number
from everymatch.basics import parents_in
from everymatch.basics import piece_in
from everymatch.basics import place_in
from everymatch.basics import rows_in
from everymatch.basics import shifted
from everymatch.basics import spot_of
from everymatch.documents import check_document
from everymatch.documents import is_document
from everymatch.errors import BadEdit
from everymatch.errors import BadPairs

MOST_EDITS = 1000


def is_edit(thing):
    """Whether it has the form of an edit."""
    if not isinstance(thing, tuple) or len(thing) < 2 or not isinstance(thing[0], str):
        return False
    word = thing[0]
    if word == "take":
        return len(thing) == 2 and is_number(thing[1])
    if len(thing) != 3:
        return False
    if word == "mark":
        return is_number(thing[1]) and is_mark(thing[2])
    if word == "put":
        return _is_place(thing[1]) and _is_piece(thing[2])
    return word == "move" and is_number(thing[1]) and _is_place(thing[2])


def _is_place(thing):
    """Whether it has the form of a place."""
    if not isinstance(thing, tuple) or len(thing) != 2:
        return False
    return (thing[0] is None or is_number(thing[0])) and is_number(thing[1])


def _is_piece(thing):
    """Whether it is a document with just one node at the top."""
    return is_document(thing) and sum([1 for _, depth in thing if depth == 0]) == 1


def edited(document, edit):
    """The document behind the edit."""
    check_document(document)
    return _edited(document, edit)


def edited_all(document, edits):
    """The document behind all of the edits, done in their sequence."""
    check_document(document)
    if not isinstance(edits, tuple) or len(edits) > MOST_EDITS:
        raise BadEdit("this is no tuple of none to a thousand edits")
    for edit in edits:
        document = _edited(document, edit)
    return document


def _edited(document, edit):
    """The document behind the edit, of a document known to be right."""
    start, end, at, entries = _plan(document, edit)
    left = document[:start] + document[end:]
    return left[:at] + entries + left[at:]


def _plan(document, edit):
    """What the edit does, as (start, end, at, entries); BadEdit if it does not fit.

    The entries from start on, ahead of end, go; those given come, at the number at of what is left.
    """
    if not is_edit(edit):
        raise BadEdit("this is no edit")
    word = edit[0]
    if word == "put":
        return _put_plan(document, edit[1], edit[2])
    node = edit[1]
    if not is_node(document, node):
        raise BadEdit("the document has no such node")
    if word == "mark":
        return node, node + 1, node, ((edit[2], document[node][1]),)
    end = end_of(document, node)
    if word == "take":
        return node, end, node, ()
    at, depth = _spot(document[:node] + document[end:], edit[2])
    return node, end, at, shifted(document[node:end], depth - document[node][1])


def _put_plan(document, place, piece):
    """The plan of putting the piece at the place."""
    at, depth = _spot(document, place)
    if len(document) + len(piece) > MOST_NODES:
        raise BadEdit("the edited document would have too many nodes")
    return at, at, at, shifted(piece, depth)


def _spot(document, place):
    """The number and the depth of a piece that is put at the place; BadEdit if it is none there."""
    parent, which = place
    if parent is not None and not is_node(document, parent):
        raise BadEdit("the document has no such parent")
    at = spot_of(document, parent, which)
    if at is None:
        raise BadEdit("the parent has too few children")
    return at, depth_below(document, parent)


def carried(document, edit):
    """The tuple of the nodes' numbers in the edited document, None if they are not there any more."""
    check_document(document)
    return _carried(document, edit, ("take",))


def kept_pairs(document, edit):
    """As carried, but with None for the nodes of a moved piece."""
    check_document(document)
    return _carried(document, edit, ("take", "move"))


def _carried(document, edit, losing):
    """The tuple of the nodes' new numbers, None for the nodes that an edit of a losing word cuts out."""
    start, end, at, entries = _plan(document, edit)
    found = []
    for node in range(len(document)):
        if start <= node < end:
            found.append(None if edit[0] in losing else at + node - start)
        else:
            left = node if node < start else node - (end - start)
            found.append(left if left < at else left + len(entries))
    return tuple(found)


def back_edit(document, edit):
    """An edit that turns the edited document into the document again."""
    check_document(document)
    at = _plan(document, edit)[2]
    word = edit[0]
    if word == "put":
        return ("take", at)
    node = edit[1]
    if word == "mark":
        return ("mark", node, document[node][0])
    # The parent stands ahead of the piece: its number is the same where the piece is gone.
    place = place_in(document, node)
    if word == "take":
        return ("put", place, piece_in(document, node))
    return ("move", at, place)


def edits_between(document, other):
    """A tuple of edits that turn the first document into the other one.

    Nodes that stay are paired with their twins: these get the other marks, then what has no twin is
    taken, so that there is room, then what is missing is put. Both go from the last piece on: an
    edit leaves the numbers ahead of it as they are.
    """
    check_document(document)
    check_document(other)
    twins = _twins(document, other)
    marks = _mark_edits(document, other, twins)
    return tuple(marks + _take_edits(document, twins) + _put_edits(other, twins))


def _twins(document, other):
    """The list, for each node, of a node of the other document that it can become, or None."""
    first, last = _stretches(document, other)
    above = parents_in(other)
    twins = []
    for node, parent in enumerate(parents_in(document)):
        twin = None
        if node < first:
            twin = node
        elif node >= len(document) - last:
            twin = node - len(document) + len(other)
        if twin is not None and not _are_paired(twins, parent, above[twin]):
            twin = None
        twins.append(twin)
    return twins


def _stretches(document, other):
    """How many nodes at the beginning have like depths, and how many at the end have like marks, too."""
    most = min(len(document), len(other))
    first = 0
    while first < most and document[first] == other[first]:
        first += 1
    last = 0
    while last < most - first and document[-1 - last] == other[-1 - last]:
        last += 1
    # Unlike marks are passed over only now: a piece put ahead of like ones must not pair them askew.
    while first < most - last and document[first][1] == other[first][1]:
        first += 1
    return first, last


def _are_paired(pairs, parent, other_parent):
    """Whether two nodes' parents are paired with one another, or both nodes stand at the top."""
    if parent is None or other_parent is None:
        return parent is None and other_parent is None
    return pairs[parent] == other_parent


def _mark_edits(document, other, twins):
    """The list of edits that give the paired nodes the marks of the other document."""
    found = []
    for node, twin in enumerate(twins):
        if twin is not None and document[node][0] != other[twin][0]:
            found.append(("mark", node, other[twin][0]))
    return found


def _take_edits(document, twins):
    """The list of edits that take the pieces without a twin, from the last one on."""
    found = []
    for node, parent in enumerate(parents_in(document)):
        if twins[node] is None and (parent is None or twins[parent] is not None):
            found.append(("take", node))
    return found[::-1]


def _put_edits(other, twins):
    """The list of edits that put the pieces that are nobody's twin, from the last one on."""
    numbers = [None] * len(other)
    many = 0
    for twin in twins:
        if twin is not None:
            numbers[twin] = many
            many += 1
    found = []
    for parent, row in rows_in(other).items():
        if parent is None:
            found.extend(_missing(row, None, numbers))
        elif numbers[parent] is not None:
            found.extend(_missing(row, numbers[parent], numbers))
    return [("put", place, piece_in(other, node)) for node, place in sorted(found, reverse=True)]


def _missing(row, number, numbers):
    """The list of (node, place) of the children in the row that are nobody's twin.

    The number is that of the parent where twins alone stand, and so does which count them alone.
    """
    found = []
    which = 0
    for node in row:
        if numbers[node] is None:
            found.append((node, (number, which)))
        else:
            which += 1
    return found


def check_pairs(document, other, pairs):
    """Raise BadPairs if these are no pairs of the two documents."""
    if not isinstance(pairs, tuple) or len(pairs) != len(document):
        raise BadPairs("this is no tuple of one entry for each node")
    above = parents_in(other)
    behind = 0
    for node, parent in enumerate(parents_in(document)):
        twin = pairs[node]
        if twin is None:
            continue
        if not is_node(other, twin) or twin < behind:
            raise BadPairs("the second nodes are none, or do not ascend")
        if not _are_paired(pairs, parent, above[twin]):
            raise BadPairs("two nodes are paired, but their parents are not")
        behind = twin + 1


def laid_over(document, other, pairs):
    """The nodes of both documents in one forest: the tuple of (node, node, row of the parent)."""
    check_document(document)
    check_document(other)
    check_pairs(document, other, pairs)
    rows = rows_in(document)
    others = rows_in(other)
    waiting = [(node, twin, None) for node, twin in reversed(_merged(rows[None], others[None], pairs))]
    laid = []
    while waiting:
        node, twin, above = waiting.pop()
        row = [] if node is None else rows[node]
        other_row = [] if twin is None else others[twin]
        for low, low_twin in reversed(_merged(row, other_row, pairs)):
            waiting.append((low, low_twin, len(laid)))
        laid.append((node, twin, above))
    return tuple(laid)


def _merged(row, other_row, pairs):
    """Two rows of children in one: ahead of each pair, and at the end, the first row's nodes first."""
    found = []
    at = 0
    for node in row:
        if pairs[node] is not None:
            while other_row[at] != pairs[node]:
                found.append((None, other_row[at]))
                at += 1
            at += 1
        found.append((node, pairs[node]))
    return found + [(None, twin) for twin in other_row[at:]]
