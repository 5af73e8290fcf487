"""Kept documents: answers of a saying, for ever, in a document that is edited."""

from everymatch.basics import is_number
from everymatch.documents import check_document
from everymatch.documents import check_nodes
from everymatch.edits import edited
from everymatch.errors import BadCount
from everymatch.errors import BadNodes
from everymatch.errors import BadNumber
from everymatch.finding import Answers
from everymatch.machines import machine_of
from everymatch.parts import Keeper
from everymatch.parts import Tally
from everymatch.parts import built
from everymatch.parts import edited_top
from everymatch.parts import even_row
from everymatch.parts import shapes_of
from everymatch.readings import Reading

# What is kept first where a copy is made, only to be given up for what the other one keeps.
EASY = ("top", "x")


def check_number(thing, many):
    """Raise BadNumber if it is no integer from 0 to below so many."""
    if not is_number(thing) or thing >= many:
        raise BadNumber("there is no match of this number")


def check_tuple(thing, many):
    """Raise BadNodes if it is no tuple of so many integers from 0 on."""
    if not isinstance(thing, tuple) or len(thing) != many:
        raise BadNodes("this is no tuple of as many integers as there are free names")
    if not all([is_number(node) for node in thing]):
        raise BadNodes("one of these is no integer from 0 on")


class Kept:
    """A document beside a saying."""

    def __init__(self, document, saying):
        check_document(document)
        keeper = Keeper(Reading(machine_of(saying)), Tally())
        self._keep(document, keeper, built(keeper, document, even_row))

    def _keep(self, document, keeper, top):
        """Keep the document that has these parts."""
        self._document = document
        self._keeper = keeper
        self._top = top
        self._answers = Answers(keeper, top, keeper.reading.ends)

    def count(self):
        """How many matches there are."""
        return self._answers.total()

    def match(self, number):
        """The so-many-th match."""
        check_number(number, self._answers.total())
        return self._answers.match_at(number)

    def number(self, nodes):
        """How many matches are less than a tuple of integers, which need not be nodes."""
        check_tuple(nodes, self._keeper.reading.names)
        return self._answers.place_of(nodes)[0]

    def behind(self, nodes):
        """The least match that is greater than a tuple of integers, or None."""
        check_tuple(nodes, self._keeper.reading.names)
        return self._answers.least_behind(nodes)

    def first(self):
        """The least match, or None."""
        return self._answers.match_at(0) if self._answers.total() > 0 else None

    def last(self):
        """The greatest match, or None."""
        total = self._answers.total()
        return self._answers.match_at(total - 1) if total > 0 else None

    def is_match(self, nodes):
        """Whether a tuple of nodes is a match."""
        check_nodes(self._document, nodes, self._keeper.reading.names)
        return self._answers.is_match(nodes)

    def listed(self, most):
        """The tuple of the first so many matches, or of all."""
        if not is_number(most):
            raise BadCount("this is no integer from 0 on")
        return tuple(self._answers.first_ones(most))

    def document(self):
        """The document as it is now."""
        return self._document

    def copy(self):
        """An equal one that goes its own way."""
        twin = Kept((), EASY)
        # Parts are never changed: both can go on from the same ones, each counting its own looks.
        twin._keep(self._document, Keeper(self._keeper.reading, Tally()), self._top)
        return twin

    def looks(self):
        """How many parts were read or made since the last call."""
        return self._keeper.tally.told()

    def edit(self, edit):
        """Do an edit."""
        document = edited(self._document, edit)
        self._keep(document, self._keeper, edited_top(self._keeper, self._top, edit))

    def shapes(self):
        """The tuple of the shapes in which children stand, the top's first, then by nodes."""
        return tuple(shapes_of(self._keeper, self._top))
