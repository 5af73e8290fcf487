"""Tables of ways: how many layings of a stretch of children, or of a piece, lead from one state to another one.

A name stands at one node or at none: so a laying of a stretch has a set of names, and so has each of its parts.
"""

from everymatch.basics import MARKS
from everymatch.basics import end_of
from everymatch.basics import is_number
from everymatch.basics import row_of
from everymatch.documents import check_document
from everymatch.documents import check_node
from everymatch.errors import BadCount
from everymatch.machines import check_machine


def row_ways(machine, document, node, begin, end):
    """The ways of the children of a node, or of the top, from begin on, ahead of end: (q, r, set, number)."""
    check_machine(machine)
    check_document(document)
    if node is not None:
        check_node(document, node)
    row = row_of(document, node)
    _check_stretch(begin, end, len(row))
    tables = [_node_table(machine, document, child) for child in row[begin:end]]
    found = []
    for state, ways in enumerate(_row_tables(machine, tables)):
        found.extend([(state, by, names, number) for (by, names), number in ways.items()])
    return tuple(sorted(found))


def _check_stretch(begin, end, many):
    """Raise BadCount if these are no ends of a stretch of so many children."""
    if not is_number(begin) or not is_number(end) or not begin <= end <= many:
        raise BadCount("there is no such stretch of the row")


def node_ways(machine, document, node):
    """The ways of a node's piece: (r, set, number)."""
    check_machine(machine)
    check_document(document)
    check_node(document, node)
    table = _node_table(machine, document, node)
    return tuple(sorted([(state, names, number) for (state, names), number in table.items()]))


def _row_tables(machine, tables):
    """The list, for each state, of the ways by which a parent goes on from it along children of these tables."""
    step = machine[3]
    found = [{(state, 0): 1} for state in range(len(step))]
    for table in tables:
        moves = [_moves(row, table) for row in step]
        found = [_moved(ways, moves) for ways in found]
    return found


def _node_table(machine, document, node):
    """The ways of a node's piece, a dict of numbers by (state, set)."""
    begin = machine[1]
    step = machine[3]
    waiting = {}
    # From the last node of the piece on: the tables of its children are made ahead of its own. They wait by
    # their depth, the first child last: so no table is kept longer than it is needed.
    for at in reversed(range(node, end_of(document, node))):
        mark, depth = document[at]
        ways = {}
        for lay, state in enumerate(begin[MARKS.index(mark)]):
            ways[(state, lay)] = 1
        for table in reversed(waiting.get(depth + 1, [])):
            ways = _moved(ways, [_moves(row, table) for row in step])
        waiting[depth + 1] = []
        waiting.setdefault(depth, []).append(ways)
    return waiting[document[node][1]][0]


def _moves(row, table):
    """What a child of this table does to a parent in the state of this row of steps: a list of (r, set, number)."""
    found = {}
    for (state, names), number in table.items():
        key = (row[state], names)
        found[key] = found.get(key, 0) + number
    return [(state, names, number) for (state, names), number in found.items()]


def _moved(ways, moves):
    """The ways when one child more is stepped by: its set and theirs have no name in common."""
    found = {}
    for (state, names), number in ways.items():
        for by, more, times in moves[state]:
            if names & more == 0:
                key = (by, names | more)
                found[key] = found.get(key, 0) + number * times
    return found
