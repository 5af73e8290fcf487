"""The editions of a document, and what is kept beside them of one saying."""

from everymatch.changes import Sides
from everymatch.edits import edited
from everymatch.edits import kept_pairs
from everymatch.finding import Answers
from everymatch.parts import Keeper
from everymatch.parts import built
from everymatch.parts import edited_top
from everymatch.parts import even_row


class Editions:
    """The documents of all editions, and for each the (edit, edition) by which it came from the one ahead.

    The edit is None where it came by going back to that edition.
    """

    def __init__(self, document):
        self.documents = [document]
        self.steps = [None]

    def newest(self):
        """The number of the newest edition."""
        return len(self.documents) - 1

    def edit(self, edit):
        """Do an edit; BadEdit if it does not fit."""
        self._follow(edited(self.documents[-1], edit), (edit, self.newest()))

    def back(self, edition):
        """Make the document of an edition, which there is, the newest one."""
        self._follow(self.documents[edition], (None, edition))

    def _follow(self, document, step):
        """Let a further edition come."""
        self.documents.append(document)
        self.steps.append(step)

    def pairs(self, edition):
        """The pairs of the edition ahead and this one, which is not the first."""
        elder = self.documents[edition - 1]
        edit = self.steps[edition][0]
        return (None,) * len(elder) if edit is None else kept_pairs(elder, edit)

    def copied(self):
        """Equal editions that go their own way."""
        twin = Editions(())
        twin.documents = list(self.documents)
        twin.steps = list(self.steps)
        return twin


class Line:
    """What is kept of one saying: the parts of each edition from the one on in which it was told."""

    def __init__(self, reading, tally):
        self.reading = reading
        self._keeper = Keeper(reading, tally)
        self._tally = tally
        self._tops = {}
        self._sides = {}

    def follow(self, editions):
        """Keep the parts of the newest edition, which may be the first one that is kept."""
        newest = editions.newest()
        step = editions.steps[newest]
        top = None if step is None else self._tops.get(step[1])
        if top is None:
            top = built(self._keeper, editions.documents[newest], even_row)
        elif step[0] is not None:
            top = edited_top(self._keeper, top, step[0])
        self._tops[newest] = top

    def answers(self, edition):
        """The answers in an edition that is kept."""
        return Answers(self._keeper, self._tops[edition], self.reading.ends)

    def sides(self, editions, edition):
        """What is added and taken by what made an edition, which is not the first."""
        if edition not in self._sides:
            elder, newer = editions.documents[edition - 1:edition + 1]
            self._sides[edition] = Sides(elder, newer, editions.pairs(edition), self.reading, self._tally)
        return self._sides[edition]

    def copied(self, tally):
        """An equal one that goes its own way and counts its looks there."""
        twin = Line(self.reading, tally)
        twin._tops = dict(self._tops)
        return twin
