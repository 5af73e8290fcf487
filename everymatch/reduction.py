"""From steps, told by a function, to the least machine that they make.

Who makes a machine tells its states by keys: numbers, words, or pairs of such. Here the states that are come
to are numbered as they are found, and those that nothing tells apart are made one.
"""

from everymatch.errors import TooMany


class Found:
    """The states that are come to: tops' and nodes', two of them where one key is both."""

    def __init__(self, most):
        self.most = most
        self.known = []
        self.of_top = []
        self.tops = {}
        self.nodes = {}

    def number(self, of_top, key):
        """The number of a top's, or a node's, state; a new one if it comes for the first time."""
        numbers = self.tops if of_top else self.nodes
        if key not in numbers:
            if len(numbers) == self.most:
                raise TooMany("too many states are come to")
            numbers[key] = len(self.known)
            self.known.append(key)
            self.of_top.append(of_top)
        return numbers[key]


def reduced(begin, top, step, is_good, most):
    """The least machine, of any number of states, as (begin, top, step, good).

    Given are the keys in which nodes and the top begin, the step from two keys to a third, and whether the
    key of a top's state is good. TooMany is raised if more than most tops' or nodes' states are come to.
    """
    found = Found(most)
    found.number(True, top)
    begun = [[found.number(False, key) for key in row] for row in begin]
    table = _steps(found, step)
    kinds = [int(is_good(key)) + 1 if of_top else 0 for key, of_top in zip(found.known, found.of_top)]
    classes = _told_apart(table, found.of_top, kinds)
    # The first state that is found of each class stands for it. By the other ones no class is found first:
    # what they step to, or by, is of one class with what those ahead of them do.
    numbers = {}
    firsts = []
    for state, one in enumerate(classes):
        if one not in numbers:
            numbers[one] = len(firsts)
            firsts.append(state)
    renumbered = [numbers[one] for one in classes]
    return (
        tuple([tuple([renumbered[state] for state in row]) for row in begun]),
        renumbered[0],
        tuple([_row(table[state], firsts, found.of_top, renumbered) for state in firsts]),
        tuple([number for number, state in enumerate(firsts) if kinds[state] == 2]),
    )


def _row(row, firsts, of_top, renumbered):
    """The steps of a class, from those of its first state."""
    return tuple([0 if of_top[state] else renumbered[row[state]] for state in firsts])


def _steps(found, step):
    """The list, for each state that is come to, of where it steps by each of them; 0 by a top's state."""
    table = []
    newest = 0
    # Pairs go by the greater one of both, then by the first one, then by the second one.
    while newest < len(found.known):
        for first in range(newest):
            table[first].append(_next(found, step, first, newest))
        table.append([_next(found, step, newest, second) for second in range(newest + 1)])
        newest += 1
    return table


def _next(found, step, first, second):
    """The number of the state to which one steps by another one."""
    if found.of_top[second]:
        return 0
    return found.number(found.of_top[first], step(found.known[first], found.known[second]))


def _told_apart(table, of_top, kinds):
    """The list of the states' classes: the coarsest ones that part the kinds and that all steps keep.

    A class tells states apart that come to it in unlike ways. When a class that has done so is parted, all
    of its parts but the greatest do so again: the ways to that one are those that are left.
    """
    members = [[state for state, own in enumerate(kinds) if own == kind] for kind in sorted(set(kinds))]
    classes = [0] * len(kinds)
    for one, states in enumerate(members):
        for state in states:
            classes[state] = one
    leading = _leading(table, of_top)
    waiting = list(range(len(members)))
    while waiting:
        targets = members[waiting.pop()]
        ways = {}
        for target in targets:
            for state, way in leading[target]:
                ways[state] = ways.get(state, 0) | way
        before = len(members)
        _part(members, classes, ways)
        waiting.extend(list(range(before, len(members))))
    return classes


def _leading(table, of_top):
    """The list, for each state, of the (state, ways) that come to it.

    Ways are told by bits: one for each state by which a first one steps, one for each that steps by a second.
    """
    many = len(table)
    nodes = [state for state in range(many) if not of_top[state]]
    leading = [[] for _ in table]
    for first, row in enumerate(table):
        ways = {}
        for second in nodes:
            ways[row[second]] = ways.get(row[second], 0) | (1 << second)
        for target, way in ways.items():
            leading[target].append((first, way))
    for second in nodes:
        ways = {}
        for first, row in enumerate(table):
            ways[row[second]] = ways.get(row[second], 0) | (1 << (many + first))
        for target, way in ways.items():
            leading[target].append((second, way))
    return leading


def _part(members, classes, ways):
    """Part each class whose states have unlike ways; its greatest part keeps its number."""
    touched = {}
    for state, way in ways.items():
        parts = touched.setdefault(classes[state], {})
        parts.setdefault(way, []).append(state)
    for one, parts in touched.items():
        untouched = [state for state in members[one] if state not in ways]
        groups = sorted(list(parts.values()) + [untouched], key=len)
        members[one] = groups[-1]
        for group in groups[:-1]:
            if group:
                for state in group:
                    classes[state] = len(members)
                members.append(group)
