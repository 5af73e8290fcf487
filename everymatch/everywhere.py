"""What sayings have to do with one another, and with all documents, of whatever number of nodes."""

from everymatch.basics import MARKS
from everymatch.basics import MOST_NODES
from everymatch.errors import BadSayings
from everymatch.errors import TooMany
from everymatch.machines import machine_of
from everymatch.machines import once
from everymatch.sayings import check_saying
from everymatch.sayings import free_in


class Grown:
    """The keys of states that documents of more and more nodes come to, each with the way to it."""

    def __init__(self, begin, top, step):
        self._step = step
        self.top = top
        # How each key is come to first: those that begin by (mark, lay), the others by stepping (key, key).
        self.beginnings = {}
        for mark, row in enumerate(begin):
            for lay, key in enumerate(row):
                self.beginnings.setdefault(key, (mark, lay))
        self.nodes = {key: None for key in self.beginnings}
        self.tops = {top: None}
        # The keys that are first come to with so many nodes.
        self.node_levels = {1: list(self.beginnings)}
        self.top_levels = {0: [top]}

    def grow(self, many):
        """Find the keys that are first come to with so many nodes, one or more; return those of the top."""
        self._find(self.node_levels, self.nodes, many)
        return self._find(self.top_levels, self.tops, many)

    def _find(self, levels, known, many):
        """Find the keys to which those of the levels step with so many nodes; return them."""
        found = []
        for before, firsts in levels.items():
            for by in self.node_levels.get(many - before, []):
                for first in firsts:
                    key = self._step(first, by)
                    if key not in known:
                        known[key] = (first, by)
                        found.append(key)
        if found:
            levels[many] = found
        return found

    def is_over(self, many):
        """Whether no key is left that is first come to with so many nodes or more."""
        greatest = max(list(self.node_levels))
        return many > greatest + max(greatest, max(list(self.top_levels)))

    def document(self, key):
        """The document that comes to a top's key, and its lays."""
        waiting = []
        while self.tops[key] is not None:
            key, by = self.tops[key]
            waiting.append((by, 0))
        entries = []
        lays = []
        # Of each row the last child waits longest.
        while waiting:
            key, depth = waiting.pop()
            while self.nodes[key] is not None:
                key, by = self.nodes[key]
                waiting.append((by, depth + 1))
            mark, lay = self.beginnings[key]
            entries.append((MARKS[mark], depth))
            lays.append(lay)
        return (tuple(entries), lays)


def same_everywhere(saying, other):
    """None if two sayings have the same matches everywhere, else (document, nodes) that tells them apart."""
    check_saying(saying)
    check_saying(other)
    if free_in(saying) != free_in(other):
        raise BadSayings("the free names of the two sayings are not the same")
    machine = machine_of(saying)
    also = machine_of(other)
    if machine == also:
        return None
    begin = [list(zip(row, others)) for row, others in zip(machine[1], also[1])]
    step = machine[3]
    steps = also[3]

    def stepped(states, by):
        return (step[states[0]][by[0]], steps[states[1]][by[1]])

    def is_wanted(states):
        return (states[0] in machine[4]) != (states[1] in also[4])

    return _smallest(Grown(begin, (machine[2], also[2]), stepped), is_wanted, len(machine[0]))


def some_document(saying):
    """(document, nodes) of as few nodes as any, a match of the saying; None if it has none anywhere."""
    machine = machine_of(saying)
    good = machine[4]
    # All states of a least machine are come to.
    if not good:
        return None
    step = machine[3]
    grown = Grown(machine[1], machine[2], lambda state, by: step[state][by])
    return _smallest(grown, lambda state: state in good, len(machine[0]))


def in_all(saying):
    """Whether each tuple of nodes of each document is a match of the saying."""
    machine = machine_of(saying)
    return machine == once(machine[0])


def _smallest(grown, is_wanted, names):
    """(document, nodes) of as few nodes as any whose key is wanted; TooMany if it has too many nodes."""
    if is_wanted(grown.top):
        return ((), ())
    many = 1
    while many <= MOST_NODES and not grown.is_over(many):
        for key in grown.grow(many):
            if is_wanted(key):
                document, lays = grown.document(key)
                return (document, tuple([_node_of(lays, at) for at in range(names)]))
        many += 1
    raise TooMany("the document would have more than 20,000 nodes")


def _node_of(lays, at):
    """The node at which the name at this place among the names stands."""
    return [node for node, lay in enumerate(lays) if (lay >> at) & 1][0]
