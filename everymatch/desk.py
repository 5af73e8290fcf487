"""The desk: a text of rows is answered row by row."""

from everymatch.answers import check_number
from everymatch.answers import check_tuple
from everymatch.documents import read_document
from everymatch.documents import write_document
from everymatch.editions import Editions
from everymatch.editions import Line
from everymatch.errors import BadEdition
from everymatch.errors import BadIndex
from everymatch.errors import BadNumber
from everymatch.errors import BadSayings
from everymatch.errors import BadText
from everymatch.errors import MatchError
from everymatch.everywhere import same_everywhere
from everymatch.machines import machine_of
from everymatch.parts import Tally
from everymatch.readings import Reading
from everymatch.sayings import read_saying

MOST_SAYINGS = 6
MOST_LETTERS = 8
LETTERS = "abcdefghijklmnopqrstuvwxyz"
DIGITS = "0123456789"
# A number of more digits is beyond all nodes, counts and editions: so this one stands for it.
MOST_DIGITS = 18
BEYOND = 1000000000000000000

# The words, and what stands behind each.
ROWS = {
    "document": ("text",),
    "saying": ("name", "text"),
    "put": ("parent", "number", "text"),
    "take": ("number",),
    "mark": ("number", "sign"),
    "move": ("number", "parent", "number"),
    "back": ("number",),
    "count": ("name",),
    "match": ("name", "number"),
    "number": ("name", "nodes"),
    "next": ("name", "nodes"),
    "added": ("name", "number"),
    "taken": ("name", "number"),
    "changes": ("name",),
    "text": (),
    "alike": ("name", "name"),
}


def run_desk(text):
    """The list of the answers to the rows of a text."""
    desk = Desk()
    return [_answer(desk, row) for row in text.split("\n")]


def _answer(desk, row):
    """The answer to a row."""
    try:
        word, told = _read_row(row)
        return desk.answer(word, told)
    except MatchError:
        return "no"


def _read_row(row):
    """(the row's word, the list of what stands behind it); an error if it cannot be read."""
    word = row.split(" ", 1)[0]
    if word not in ROWS:
        raise BadText(0)
    kinds = ROWS[word]
    # What is a text has blanks of its own; behind everything else too many words are left over.
    words = row.split(" ", len(kinds)) if "text" in kinds else row.split(" ")
    if len(words) != len(kinds) + 1:
        raise BadText(len(row))
    return (word, [_read_word(kind, word_behind) for kind, word_behind in zip(kinds, words[1:])])


def _read_word(kind, word):
    """What a word of this kind tells; an error if it cannot be read."""
    if kind == "number":
        return _read_number(word)
    if kind == "parent":
        return None if word == "-" else _read_number(word)
    if kind == "nodes":
        return () if word == "-" else tuple([_read_number(part) for part in word.split(",")])
    if kind == "name" and (not 1 <= len(word) <= MOST_LETTERS or not all([sign in LETTERS for sign in word])):
        raise BadIndex("a name is one to eight letters")
    return word


def _read_number(word):
    """The number of some digits."""
    if word == "" or not all([sign in DIGITS for sign in word]) or (word[0] == "0" and len(word) > 1):
        raise BadNumber("this is no number")
    return BEYOND if len(word) > MOST_DIGITS else int(word)


def _written_nodes(nodes):
    """The text of a tuple of nodes."""
    return ",".join([str(node) for node in nodes]) if nodes else "-"


class Desk:
    """The editions of a document, and sayings with names: all is asked of the newest edition."""

    def __init__(self):
        self._editions = Editions(())
        self._tally = Tally()
        self._sayings = {}
        self._lines = {}

    def answer(self, word, told):
        """The answer to what is told behind a word of a row; an error if it is refused."""
        if word == "document":
            return self._begin(read_document(told[0]))
        if word == "saying":
            return self._tell(told[0], read_saying(told[1]))
        if word == "back":
            return self._back(told[0])
        if word == "text":
            return write_document(self._editions.documents[-1])
        if word == "alike":
            return self._alike(told[0], told[1])
        if word in ("put", "take", "mark", "move"):
            return self._edit(word, told)
        line = self._line(told[0])
        if word in ("added", "taken", "changes"):
            return self._of_sides(word, line, told[1:])
        return self._of_answers(word, line, told[1:])

    def _begin(self, document):
        """Begin anew with a document."""
        self._editions = Editions(document)
        for name in list(self._lines):
            self._lines[name] = self._new_line(self._lines[name].reading)
        return "yes"

    def _new_line(self, reading):
        """What is kept of a saying from the newest edition on."""
        line = Line(reading, self._tally)
        line.follow(self._editions)
        return line

    def _tell(self, name, saying):
        """Take a saying by its name."""
        if name not in self._lines and len(self._lines) == MOST_SAYINGS:
            raise BadSayings("there are six sayings already")
        self._lines[name] = self._new_line(Reading(machine_of(saying)))
        self._sayings[name] = saying
        return "yes"

    def _edit(self, word, told):
        """Do an edit."""
        if word == "put":
            edit = (word, (told[0], told[1]), read_document(told[2]))
        elif word == "move":
            edit = (word, told[0], (told[1], told[2]))
        else:
            edit = (word, *told)
        self._editions.edit(edit)
        return self._follow()

    def _back(self, edition):
        """Go back to an edition."""
        if edition > self._editions.newest():
            raise BadEdition("there is no such edition")
        self._editions.back(edition)
        return self._follow()

    def _follow(self):
        """Let all sayings follow to the newest edition, and tell its number."""
        for line in self._lines.values():
            line.follow(self._editions)
        return str(self._editions.newest())

    def _line(self, name):
        """What is kept of the saying of a name."""
        if name not in self._lines:
            raise BadIndex("there is no saying of this name")
        return self._lines[name]

    def _of_answers(self, word, line, told):
        """What is asked of the matches: to count, or to tell one."""
        answers = line.answers(self._editions.newest())
        if word == "count":
            return str(answers.total())
        if word == "match":
            check_number(told[0], answers.total())
            return _written_nodes(answers.match_at(told[0]))
        check_tuple(told[0], line.reading.names)
        if word == "number":
            return str(answers.place_of(told[0])[0])
        nodes = answers.least_behind(told[0])
        return "none" if nodes is None else _written_nodes(nodes)

    def _of_sides(self, word, line, told):
        """What is asked of the matches that the newest edition added and took."""
        newest = self._editions.newest()
        if newest == 0:
            if word == "changes":
                return "0 0"
            raise BadNumber("the first edition adds and takes no matches")
        sides = line.sides(self._editions, newest)
        if word == "changes":
            return f"{sides.newer.total()} {sides.elder.total()}"
        side = sides.newer if word == "added" else sides.elder
        return _written_nodes(side.match_at(told[0]))

    def _alike(self, name, other):
        """Whether two sayings have the same matches in each document, or one that tells them apart."""
        self._line(name)
        self._line(other)
        told = same_everywhere(self._sayings[name], self._sayings[other])
        return "yes" if told is None else write_document(told[0]) + " " + _written_nodes(told[1])
