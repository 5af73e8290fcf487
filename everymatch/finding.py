"""Answers that are found by going down from the top with numbers of ways.

On the way down one knows how many ways lead to each state ahead of a stretch, and from each state behind it
to an end that is wanted. With the stretch's own ways these tell in how many matches a name stands in it.
A name that is found is laid there, which makes the parts above anew, and the next one is looked for.
"""

from everymatch.parts import laid
from everymatch.parts import path_to


class Search:
    """A way down to the node at which a name stands, and what is passed on it: nodes, and ways of theirs."""

    def __init__(self, target, by_ways):
        self.target = target
        self.by_ways = by_ways
        self.passed = 0
        self.ways = 0
        self.here = 0
        self.path = []

    def stops(self, many, ways):
        """Whether the target is among so many nodes, or ways, that come next; they are passed if it is not."""
        before = self.ways + ways if self.by_ways else self.passed + many
        if self.target < before:
            return True
        self.passed += many
        self.ways += ways
        return False


class Answers:
    """The matches that lead to wanted ends: a dict of 1 by states of the top."""

    def __init__(self, keeper, top, ends):
        self.keeper = keeper
        self.top = top
        self.ends = ends
        self.lays = [1 << at for at in range(keeper.reading.names)]

    def total(self):
        """How many matches there are."""
        return self._total(self.top)

    def _total(self, top):
        """How many there are with the names that are laid."""
        return _ways_to(self.keeper.read(top).ways, self.ends)

    def match_at(self, at):
        """The so-many-th match, which there is."""
        top = self.top
        nodes = []
        for lay in self.lays:
            search = self._search(top, lay, Search(at, True))
            nodes.append(search.passed)
            at -= search.ways
            if lay != self.lays[-1]:
                top = laid(self.keeper, search.path, lay)
        return tuple(nodes)

    def place_of(self, nodes):
        """(how many matches are less than the nodes, whether these are a match)."""
        top = self.top
        less = 0
        here = self._total(top)
        for lay, node in zip(self.lays, nodes):
            if here == 0:
                break
            if node >= self.keeper.read(top).many:
                return (less + here, False)
            search = self._search(top, lay, Search(node, False))
            less += search.ways
            here = search.here
            if lay != self.lays[-1]:
                top = laid(self.keeper, search.path, lay)
        return (less, here > 0)

    def is_match(self, nodes):
        """Whether the nodes, which there are, are a match."""
        top = self.top
        for lay, node in zip(self.lays, nodes):
            top = laid(self.keeper, path_to(self.keeper, top, node), lay)
        return self._total(top) > 0

    def least_behind(self, nodes):
        """The least match that is greater than the nodes, or None."""
        less, matched = self.place_of(nodes)
        at = less + 1 if matched else less
        return self.match_at(at) if at < self.total() else None

    def first_ones(self, most):
        """The list of the first so many matches, or of all."""
        return self._first_ones(self.top, self.lays, most)

    def _first_ones(self, top, lays, most):
        """The same with the names that are laid, those of the lays being left."""
        total = self._total(top)
        if not lays:
            return [()] * min(most, total)
        found = []
        passed = 0
        while passed < total and len(found) < most:
            search = self._search(top, lays[0], Search(passed, True))
            passed += search.here
            rest = [()]
            if len(lays) > 1:
                rest = self._first_ones(laid(self.keeper, search.path, lays[0]), lays[1:], most - len(found))
            found.extend([(search.passed, *more) for more in rest])
        return found

    def _search(self, top, lay, search):
        """Go down to the node that is looked for; the name of the lay stands at it in so many ways."""
        part = self.keeper.read(top)
        behind = self.ends
        while True:
            search.path.append((part, False))
            row = None if part.row is None else self.keeper.read(part.row)
            ahead = {}
            here = 0
            for own, state in self.keeper.begun(part):
                if own & lay:
                    here += _ways_to({state: 1} if row is None else self.keeper.ways_from(row, state), behind)
                else:
                    ahead[state] = 1
            if search.stops(0 if part.label is None else 1, here):
                search.here = here
                return search
            part, behind = self._child(row, ahead, behind, lay, search)

    def _child(self, part, ahead, behind, lay, search):
        """(the child in which it goes on, the ways behind it)."""
        while part.height > 0:
            left = self.keeper.read(part.left)
            right = self.keeper.read(part.right)
            through = _along(self.keeper, left, ahead)
            nearer = {state: _ways_to(self.keeper.ways_from(right, state), behind) for state in through}
            goes_on = not search.stops(left.many, _ways_in(self.keeper, left, ahead, nearer, lay))
            search.path.append((part, goes_on))
            part = right if goes_on else left
            ahead = through if goes_on else ahead
            behind = behind if goes_on else nearer
        reading = self.keeper.reading
        own = {}
        for by in part.ways:
            own[by] = sum([number * behind.get(reading.step(state, by), 0) for state, number in ahead.items()])
        return (part, own)


def _ways_to(ways, behind):
    """How many of these ways there are when one goes on by those behind."""
    return sum([number * behind.get(state, 0) for state, number in ways.items()])


def _along(keeper, part, ahead):
    """How many ways lead to each state behind a stretch."""
    found = {}
    for state, number in ahead.items():
        for after, times in keeper.ways_from(part, state).items():
            found[after] = found.get(after, 0) + number * times
    return found


def _ways_in(keeper, part, ahead, behind, lay):
    """How many ways there are in which the name of the lay stands in a stretch."""
    reading = keeper.reading
    total = 0
    for state, number in ahead.items():
        for after, times in keeper.ways_from(part, state).items():
            if (reading.names_of(state) ^ reading.names_of(after)) & lay:
                total += number * times * behind[after]
    return total
