"""What the other files share: kinds of values, and ways through a document that is known to be right.

Nothing here judges the document that it is given: the functions of the interface have done so.
"""

MARKS = ("a", "b", "c", "d", "e", "f", "g", "h")
NAMES = ("p", "q", "r", "s", "t", "u", "v", "w", "x", "y", "z")
MOST_NODES = 20000
MOST_NAMES = 5


def is_whole(thing):
    """Whether it is an integer, which a bool is not."""
    return isinstance(thing, int) and not isinstance(thing, bool)


def is_number(thing):
    """Whether it is an integer from 0 on."""
    return is_whole(thing) and thing >= 0


def is_mark(thing):
    """Whether it is a mark."""
    return isinstance(thing, str) and thing in MARKS


def is_name(thing):
    """Whether it is a name."""
    return isinstance(thing, str) and thing in NAMES


def ascends(entries):
    """Whether each entry is greater than the one ahead of it."""
    return all([entries[at] > entries[at - 1] for at in range(1, len(entries))])


def is_node(document, thing):
    """Whether it is the number of a node of the document."""
    return is_number(thing) and thing < len(document)


def parents_in(document):
    """The list of the nodes' parents, None for those at the top."""
    found = []
    path = []
    for node, (_, depth) in enumerate(document):
        del path[depth:]
        found.append(path[-1] if path else None)
        path.append(node)
    return found


def rows_in(document):
    """The dict of all rows of children by their parent, the top's row by None."""
    rows = {None: []}
    for node, parent in enumerate(parents_in(document)):
        rows[node] = []
        rows[parent].append(node)
    return rows


def depth_below(document, parent):
    """The depth at which the children of the parent, or of the top, stand."""
    return 0 if parent is None else document[parent][1] + 1


def first_below(parent):
    """The number at which the first child of the parent, or of the top, stands if there is one."""
    return 0 if parent is None else parent + 1


def row_of(document, parent):
    """The list of the children of one parent, or of the top."""
    depth = depth_below(document, parent)
    row = []
    for at in range(first_below(parent), len(document)):
        here = document[at][1]
        if here < depth:
            break
        if here == depth:
            row.append(at)
    return row


def spot_of(document, parent, which):
    """The number that a which-th child put there would get, None if the row is shorter."""
    depth = depth_below(document, parent)
    spot = first_below(parent)
    passed = 0
    while spot < len(document) and document[spot][1] >= depth:
        if document[spot][1] == depth:
            if passed == which:
                break
            passed += 1
        spot += 1
    return spot if passed == which else None


def place_in(document, node):
    """The place (parent, which) of a node."""
    depth = document[node][1]
    above = node - 1
    which = 0
    while above >= 0 and document[above][1] >= depth:
        if document[above][1] == depth:
            which += 1
        above -= 1
    return (None if above < 0 else above, which)


def end_of(document, node):
    """The number next behind the last node of the node's piece."""
    depth = document[node][1]
    end = node + 1
    while end < len(document) and document[end][1] > depth:
        end += 1
    return end


def piece_in(document, node):
    """The node's piece, the node's depth taken off."""
    return shifted(document[node:end_of(document, node)], -document[node][1])


def shifted(entries, by):
    """The tuple of the entries, each so many deeper."""
    return tuple([(mark, depth + by) for mark, depth in entries])
