"""What sayings mean: their matches in small documents, found by trying all tuples of nodes.

A table tells of each tuple of nodes of the names in a scope whether a saying holds there. It is a list of
numbers, each bit of which is the answer for one tuple; the newest name of the scope weighs most, and one
number tells of all nodes of the two eldest names. So all tuples of five names are tried at once.
"""

from everymatch.basics import end_of
from everymatch.basics import parents_in
from everymatch.documents import check_document
from everymatch.documents import check_nodes
from everymatch.errors import BadDocument
from everymatch.sayings import check_saying
from everymatch.sayings import free_in
from everymatch.sayings import names_within
from everymatch.sayings import sayings_within

MOST_TRIED = 30


def holds(saying, document, nodes):
    """Whether a tuple of nodes, one for each free name, is a match of the saying."""
    check_saying(saying)
    _check_small(document)
    free = free_in(saying)
    check_nodes(document, nodes, len(free))
    return _table(saying, _facts(document), (), dict(zip(free, nodes))) == [1]


def matches(saying, document):
    """The ascending tuple of all matches of the saying."""
    check_saying(saying)
    _check_small(document)
    free = free_in(saying)
    # The first name is the newest one of the scope: so it weighs most, as it does among tuples.
    table = _table(saying, _facts(document), free[::-1], {})
    return tuple(_told(table, len(free), len(document)))


def _check_small(document):
    """Raise BadDocument if it is no document, or has more nodes than are tried."""
    check_document(document)
    if len(document) > MOST_TRIED:
        raise BadDocument("matches are tried in documents of at most thirty nodes")


def _facts(document):
    """What the first seven sorts ask for: the nodes' marks, their parents, and where their pieces end."""
    marks = [mark for mark, _ in document]
    return (marks, parents_in(document), [end_of(document, node) for node in range(len(document))])


def _is_so(saying, known, facts):
    """Whether a saying of the first seven sorts holds, its names standing at the known nodes."""
    marks, above, ends = facts
    sort = saying[0]
    x = known[saying[1]]
    if sort == "marked":
        return marks[x] in saying[2]
    if sort == "top":
        return above[x] is None
    y = known[saying[2]]
    if sort == "child":
        return above[y] == x
    if sort == "below":
        return x < y < ends[x]
    if sort == "same":
        return x == y
    if above[x] != above[y]:
        return False
    return y == ends[x] if sort == "next" else x < y


def _table(saying, facts, scope, known):
    """The table of the saying over the scope, its other free names standing at the known nodes."""
    sort = saying[0]
    within = sayings_within(saying)
    many = len(facts[0])
    if not within:
        return _relation_table(saying, facts, scope, known)
    if sort in ("some", "all"):
        parts = _parted(_table(saying[2], facts, (*scope, saying[1]), known), len(scope) + 1, many)
    else:
        parts = [_table(part, facts, scope, known) for part in within]
    if sort == "not":
        return _opposite(parts[0], len(scope), many)
    if sort in ("both", "all"):
        return _all_of(parts, len(scope), many)
    return _one_of(parts, len(scope), many)


def _relation_table(saying, facts, scope, known):
    """The table of a saying of the first seven sorts."""
    many = len(facts[0])
    names = names_within(saying)
    if all([name in known for name in names]):
        return _even(_is_so(saying, known, facts), len(scope), many)
    newest = scope[-1]
    if newest in names:
        parts = [_relation_table(saying, facts, scope[:-1], {**known, newest: node}) for node in range(many)]
    else:
        parts = [_relation_table(saying, facts, scope[:-1], known)] * many
    return _stacked(parts, len(scope), many)


def _bits(names, many):
    """How many tuples one number of a table over so many names tells of."""
    return (1, many, many * many)[min(names, 2)]


def _length(names, many):
    """How many numbers a table over so many names has."""
    length = 1
    for _ in range(names - 2):
        length = length * many
    return length


def _even(answer, names, many):
    """The table that has the same answer everywhere."""
    number = (1 << _bits(names, many)) - 1 if answer else 0
    return [number] * _length(names, many)


def _opposite(table, names, many):
    """The table that has the other answer everywhere."""
    return [yes ^ number for number, yes in zip(table, _even(True, names, many))]


def _all_of(tables, names, many):
    """The table that has yes where all of the tables have it."""
    found = _even(True, names, many)
    for table in tables:
        found = [number & other for number, other in zip(found, table)]
    return found


def _one_of(tables, names, many):
    """The table that has yes where at least one of the tables has it."""
    found = _even(False, names, many)
    for table in tables:
        found = [number | other for number, other in zip(found, table)]
    return found


def _parted(table, names, many):
    """The list of the tables over one name fewer, one for each node of the newest name."""
    if names > 2:
        length = _length(names - 1, many)
        return [table[node * length:(node + 1) * length] for node in range(many)]
    bits = _bits(names - 1, many)
    ones = (1 << bits) - 1
    return [[(table[0] >> (node * bits)) & ones] for node in range(many)]


def _stacked(tables, names, many):
    """The table over so many names of those over one fewer, one for each node of the newest name."""
    if names > 2:
        return [number for table in tables for number in table]
    bits = _bits(names - 1, many)
    total = 0
    for node, table in enumerate(tables):
        total = total | (table[0] << (node * bits))
    return [total]


def _told(table, names, many):
    """The ascending list of the tuples of nodes for which a table has yes."""
    if names == 0:
        return [()] if table == [1] else []
    found = []
    for node, part in enumerate(_parted(table, names, many)):
        found.extend([(node, *rest) for rest in _told(part, names - 1, many)])
    return found
