"""What an edit, or anything else between two documents, adds to the matches of a saying and takes from them."""

from everymatch.answers import check_number
from everymatch.answers import check_tuple
from everymatch.documents import check_document
from everymatch.edits import check_pairs
from everymatch.edits import laid_over
from everymatch.finding import Answers
from everymatch.machines import machine_of
from everymatch.parts import Keeper
from everymatch.parts import Tally
from everymatch.parts import built
from everymatch.parts import lean_row
from everymatch.readings import Reading
from everymatch.readings import ReadingOfBoth


class Side:
    """The matches that are matches in one of two documents alone, told by the nodes of that one."""

    def __init__(self, answers, nodes):
        self._answers = answers
        # A node of this document, or None, by rows; and the other way round.
        self._nodes = nodes
        self._rows = [row for row, node in enumerate(nodes) if node is not None]

    def total(self):
        """How many there are."""
        return self._answers.total()

    def match_at(self, number):
        """The so-many-th; BadNumber if there is none."""
        check_number(number, self._answers.total())
        return tuple([self._nodes[row] for row in self._answers.match_at(number)])

    def less_than(self, nodes):
        """How many are less than a tuple of integers."""
        check_tuple(nodes, len(self._answers.lays))
        rows = [self._rows[node] if node < len(self._rows) else len(self._nodes) for node in nodes]
        return self._answers.place_of(rows)[0]


class Sides:
    """What is added, and what is taken, between two documents that are known to be right, and so their pairs."""

    def __init__(self, elder, newer, pairs, reading, tally):
        rows = laid_over(elder, newer, pairs)
        entries = []
        for node, twin, above in rows:
            label = (None if node is None else elder[node][0], None if twin is None else newer[twin][0])
            entries.append((label, 0 if above is None else entries[above][1] + 1))
        both = ReadingOfBoth(reading)
        keeper = Keeper(both, tally)
        top = built(keeper, entries, lean_row)
        states = list(top.ways)
        self.newer = Side(Answers(keeper, top, both.ends_of(states, False)), [row[1] for row in rows])
        self.elder = Side(Answers(keeper, top, both.ends_of(states, True)), [row[0] for row in rows])


class Change:
    """What is added to the matches of a saying, and what is taken, between two documents with paired nodes."""

    def __init__(self, elder, newer, pairs, saying):
        check_document(elder)
        check_document(newer)
        check_pairs(elder, newer, pairs)
        self._tally = Tally()
        self._sides = Sides(elder, newer, pairs, Reading(machine_of(saying)), self._tally)

    def added_count(self):
        """How many matches are added."""
        return self._sides.newer.total()

    def taken_count(self):
        """How many matches are taken."""
        return self._sides.elder.total()

    def added(self, number):
        """The so-many-th match that is added, by nodes of the newer document."""
        return self._sides.newer.match_at(number)

    def taken(self, number):
        """The so-many-th match that is taken, by nodes of the elder document."""
        return self._sides.elder.match_at(number)

    def added_number(self, nodes):
        """How many of those added are less than a tuple of integers."""
        return self._sides.newer.less_than(nodes)

    def taken_number(self, nodes):
        """How many of those taken are less than a tuple of integers."""
        return self._sides.elder.less_than(nodes)

    def looks(self):
        """How many parts were read or made since the last call."""
        return self._tally.told()
