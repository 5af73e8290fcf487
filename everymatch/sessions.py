"""Sessions: a document that is edited, all of its editions, and answers of some sayings in each of them."""

from everymatch.answers import check_number
from everymatch.answers import check_tuple
from everymatch.basics import is_number
from everymatch.documents import check_document
from everymatch.editions import Editions
from everymatch.editions import Line
from everymatch.errors import BadEdition
from everymatch.errors import BadIndex
from everymatch.errors import BadNumber
from everymatch.errors import BadSayings
from everymatch.machines import machine_of
from everymatch.parts import Tally
from everymatch.readings import Reading
from everymatch.sayings import is_saying

MOST_SAYINGS = 6


class Session:
    """Editions of a document, and sayings."""

    def __init__(self, document, sayings):
        check_document(document)
        if not isinstance(sayings, tuple) or len(sayings) > MOST_SAYINGS:
            raise BadSayings("this is no tuple of none to six sayings")
        if not all([is_saying(saying) for saying in sayings]):
            raise BadSayings("one of these is no saying")
        self._tally = Tally()
        self._editions = Editions(document)
        self._lines = [Line(Reading(machine_of(saying)), self._tally) for saying in sayings]
        self._follow()

    def _follow(self):
        """Let all sayings follow to the newest edition; return its number."""
        for line in self._lines:
            line.follow(self._editions)
        return self._editions.newest()

    def _check_edition(self, edition):
        """Raise BadEdition if there is no such edition."""
        if not is_number(edition) or edition > self._editions.newest():
            raise BadEdition("there is no such edition")

    def _line(self, saying, edition):
        """What is kept of the saying; BadIndex, or BadEdition, if there is no such saying or edition."""
        if not is_number(saying) or saying >= len(self._lines):
            raise BadIndex("there is no saying of this index")
        self._check_edition(edition)
        return self._lines[saying]

    def _sides_of(self, saying, edition):
        """What is added and taken of the saying by what made the edition, None of the first one."""
        line = self._line(saying, edition)
        return None if edition == 0 else line.sides(self._editions, edition)

    def edit(self, edit):
        """Do an edit; return the number of the newest edition then."""
        self._editions.edit(edit)
        return self._follow()

    def back(self, edition):
        """Make the document of an edition the newest one, as a further edition; return its number."""
        self._check_edition(edition)
        self._editions.back(edition)
        return self._follow()

    def document(self, edition):
        """The document of an edition."""
        self._check_edition(edition)
        return self._editions.documents[edition]

    def count(self, saying, edition):
        """How many matches a saying has in an edition."""
        return self._line(saying, edition).answers(edition).total()

    def match(self, saying, edition, number):
        """The so-many-th match of a saying in an edition."""
        answers = self._line(saying, edition).answers(edition)
        check_number(number, answers.total())
        return answers.match_at(number)

    def number(self, saying, edition, nodes):
        """How many matches of a saying in an edition are less than a tuple of integers."""
        line = self._line(saying, edition)
        check_tuple(nodes, line.reading.names)
        return line.answers(edition).place_of(nodes)[0]

    def behind(self, saying, edition, nodes):
        """The least match of a saying in an edition that is greater than a tuple of integers, or None."""
        line = self._line(saying, edition)
        check_tuple(nodes, line.reading.names)
        return line.answers(edition).least_behind(nodes)

    def added(self, saying, edition, number):
        """The so-many-th match that was added by what made the edition, by nodes of this edition."""
        sides = self._sides_of(saying, edition)
        if sides is None:
            raise BadNumber("the first edition adds no matches")
        return sides.newer.match_at(number)

    def taken(self, saying, edition, number):
        """The so-many-th match that was taken by what made the edition, by nodes of the edition ahead."""
        sides = self._sides_of(saying, edition)
        if sides is None:
            raise BadNumber("the first edition takes no matches")
        return sides.elder.match_at(number)

    def changes(self, saying, edition):
        """(how many matches were added, how many were taken) by what made the edition."""
        sides = self._sides_of(saying, edition)
        return (0, 0) if sides is None else (sides.newer.total(), sides.elder.total())

    def looks(self):
        """How many parts were read or made since the last call."""
        return self._tally.told()

    def copy(self):
        """An equal session that goes its own way and has looked at nothing yet."""
        twin = Session((), ())
        twin._editions = self._editions.copied()
        twin._lines = [line.copied(twin._tally) for line in self._lines]
        return twin
