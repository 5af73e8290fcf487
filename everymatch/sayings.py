"""Sayings about named nodes: their form, their names, their texts, and how they are turned into others."""

from everymatch.basics import MARKS
from everymatch.basics import MOST_NAMES
from everymatch.basics import NAMES
from everymatch.basics import ascends
from everymatch.basics import is_mark
from everymatch.basics import is_name
from everymatch.errors import BadNames
from everymatch.errors import BadSaying
from everymatch.errors import BadText
from everymatch.errors import TooMany

MOST_SAYINGS = 40
MOST_WITHIN = 12
MOST_FREE = 3

# What stands behind the word of each sort. Sayings stand last in each.
FORMS = {
    "marked": ("name", "marks"),
    "child": ("name", "name"),
    "below": ("name", "name"),
    "next": ("name", "name"),
    "after": ("name", "name"),
    "same": ("name", "name"),
    "top": ("name",),
    "both": ("saying", "saying"),
    "either": ("saying", "saying"),
    "not": ("saying",),
    "some": ("name", "saying"),
    "all": ("name", "saying"),
}
DENIED = {"both": "either", "either": "both", "some": "all", "all": "some"}

# Of the words in each of these tuples none is the beginning of another one.
BEGINNINGS = ("(", "not ", "some ", "all ",
              "p ", "q ", "r ", "s ", "t ", "u ", "v ", "w ", "x ", "y ", "z ")
QUANTIFIED = ("p ", "q ", "r ", "s ", "t ", "u ", "v ", "w ", "x ", "y ", "z ")
RELATIONS = ("in ", "over ", "above ", "then ", "ahead ", "is ", "top")
RELATION_SORTS = {"over ": "child", "above ": "below", "then ": "next", "ahead ": "after", "is ": "same"}
RELATION_WORDS = {"child": "over", "below": "above", "next": "then", "after": "ahead", "same": "is"}
JOINTS = (" and ", " or ")
JOINT_SORTS = {" and ": "both", " or ": "either"}
JOINT_WORDS = {"both": " and ", "either": " or "}


def is_saying(thing):
    """Whether it is a saying."""
    many = _count(thing, MOST_WITHIN)
    if many is None or many > MOST_SAYINGS:
        return False
    free = free_in(thing)
    return len(free) <= MOST_FREE and _names_fit(thing, free)


def check_saying(thing):
    """Raise BadSaying if it is no saying."""
    if not is_saying(thing):
        raise BadSaying("this is no saying")


def _count(thing, most):
    """How many sayings are in it, itself counted; None if its form is wrong or it nests deeper than most."""
    if most == 0 or not _has_form(thing):
        return None
    total = 1
    for part in sayings_within(thing):
        many = _count(part, most - 1)
        if many is None:
            return None
        total += many
    return total


def _has_form(thing):
    """Whether it has the form of a saying, whatever stands in it at the places of sayings."""
    if not isinstance(thing, tuple) or len(thing) == 0 or not isinstance(thing[0], str):
        return False
    kinds = FORMS.get(thing[0])
    if kinds is None or len(kinds) != len(thing) - 1:
        return False
    return all([_is_of_kind(entry, kind) for entry, kind in zip(thing[1:], kinds)])


def _is_of_kind(entry, kind):
    """Whether an entry may stand where a name, marks or a saying is due; sayings are looked at elsewhere."""
    if kind == "name":
        return is_name(entry)
    return kind == "saying" or _is_row_of_marks(entry)


def _is_row_of_marks(thing):
    """Whether it is an ascending tuple of one to eight marks."""
    if not isinstance(thing, tuple) or len(thing) == 0:
        return False
    return all([is_mark(mark) for mark in thing]) and ascends(thing)


def sayings_within(saying):
    """The list of the sayings that stand directly in a saying."""
    return [entry for entry, kind in zip(saying[1:], FORMS[saying[0]]) if kind == "saying"]


def names_within(saying):
    """The list of the names that stand directly in a saying, that of a some or all among them."""
    return [entry for entry, kind in zip(saying[1:], FORMS[saying[0]]) if kind == "name"]


def _with_sayings(sort, saying, parts):
    """The saying of the sort with the entries of another one, but for these sayings directly in it."""
    return (sort, *saying[1:len(saying) - len(parts)], *parts)


def free_in(saying):
    """The ascending tuple of the free names of what has the form of a saying."""
    parts = sayings_within(saying)
    if not parts:
        return tuple(sorted(set(names_within(saying))))
    free = [name for part in parts for name in free_in(part)]
    return tuple(sorted({name for name in free if name not in names_within(saying)}))


def _names_fit(saying, taken):
    """Whether no some or all has a name that is taken, and never more than five are taken together.

    Taken are the free names of the whole, and the names of each some and all around.
    """
    if saying[0] in ("some", "all"):
        if saying[1] in taken or len(taken) == MOST_NAMES:
            return False
        taken = (*taken, saying[1])
    return all([_names_fit(part, taken) for part in sayings_within(saying)])


def free_names(saying):
    """The ascending tuple of the saying's free names."""
    check_saying(saying)
    return free_in(saying)


def write_saying(saying):
    """The text of a saying."""
    check_saying(saying)
    return _written(saying)


def _written(saying):
    """The text of what is known to be a saying."""
    sort = saying[0]
    parts = [_written(part) for part in sayings_within(saying)]
    if sort == "marked":
        return saying[1] + " in " + "".join(saying[2])
    if sort == "top":
        return saying[1] + " top"
    if sort == "not":
        return "not " + parts[0]
    if sort in ("some", "all"):
        return sort + " " + saying[1] + " " + parts[0]
    if sort in ("both", "either"):
        return "(" + parts[0] + JOINT_WORDS[sort] + parts[1] + ")"
    return saying[1] + " " + RELATION_WORDS[sort] + " " + saying[2]


def read_saying(text):
    """The saying of which a text is told; BadText where it goes wrong."""
    if not isinstance(text, str):
        raise BadText(0)
    saying, end = _read(text)
    if end < len(text):
        raise BadText(end)
    # A saying beyond the bounds is told by the text's end: all of its signs are right.
    if not is_saying(saying):
        raise BadText(len(text))
    return saying


def _read(text):
    """The saying at the text's beginning, of any number of sayings and names, and where it ends.

    Those that are begun wait in a list, not in calls: a text may nest deeper than calls can.
    """
    waiting = []
    saying = None
    at = 0
    while saying is None:
        word = _word_at(text, at, BEGINNINGS)
        at += len(word)
        if word == "(":
            waiting.append(())
        elif word == "not ":
            waiting.append(("not",))
        elif word in ("some ", "all "):
            waiting.append((word[:-1], _word_at(text, at, QUANTIFIED)[0]))
            at += 2
        else:
            saying, at = _read_relation(text, at, word[0])
            saying, at = _read_closing(text, at, saying, waiting)
    return saying, at


def _word_at(text, at, words):
    """The one of the words that stands there; BadText at the first sign with which none of them goes on."""
    for end in range(at, len(text)):
        begun = text[at:end + 1]
        words = [word for word in words if word.startswith(begun)]
        if not words:
            raise BadText(end)
        if begun in words:
            return begun
    raise BadText(len(text))


def _read_relation(text, at, name):
    """The saying of the first seven sorts of which the name and a blank are read, and where it ends."""
    word = _word_at(text, at, RELATIONS)
    at += len(word)
    if word == "top":
        return ("top", name), at
    if word != "in ":
        return (RELATION_SORTS[word], name, _word_at(text, at, NAMES)), at + 1
    marks = [_word_at(text, at, MARKS)]
    at += 1
    while at < len(text) and is_mark(text[at]) and text[at] > marks[-1]:
        marks.append(text[at])
        at += 1
    return ("marked", name, tuple(marks)), at


def _read_closing(text, at, saying, waiting):
    """What is read behind a whole saying: (the saying that it ends, or None if one more is due, where)."""
    while waiting:
        begun = waiting.pop()
        if not begun:
            word = _word_at(text, at, JOINTS)
            waiting.append((JOINT_SORTS[word], saying))
            return None, at + len(word)
        if begun[0] in ("both", "either"):
            at += len(_word_at(text, at, (")",)))
        saying = (*begun, saying)
    return saying, at


def named_anew(saying, pairs):
    """The saying with its free names exchanged as the pairs (elder name, newer name) tell."""
    check_saying(saying)
    _check_pairs(saying, pairs)
    return _renamed(saying, dict(pairs))


def _check_pairs(saying, pairs):
    """Raise BadNames if these are no pairs by which the saying's free names can be exchanged."""
    if not isinstance(pairs, tuple) or not all([_is_pair(pair) for pair in pairs]) or not ascends(pairs):
        raise BadNames("this is no ascending tuple of pairs of names")
    elder = [first for first, _ in pairs]
    newer = [second for _, second in pairs]
    if len(set(elder)) < len(pairs) or len(set(newer)) < len(pairs):
        raise BadNames("a name comes twice")
    free = free_in(saying)
    if not all([name in free for name in elder]):
        raise BadNames("one of the first names is not free")
    standing = _standing(saying)
    if any([name in standing and name not in elder for name in newer]):
        raise BadNames("one of the second names stands in the saying already")


def _is_pair(thing):
    """Whether it is a pair of names."""
    return isinstance(thing, tuple) and len(thing) == 2 and is_name(thing[0]) and is_name(thing[1])


def _standing(saying):
    """The list of all names in the saying, those of each some and all too: a newer one would be caught by it."""
    found = names_within(saying)
    for part in sayings_within(saying):
        found.extend(_standing(part))
    return found


def _renamed(saying, names):
    """The saying with the names exchanged, none of which is that of a some or all."""
    parts = [_renamed(part, names) for part in sayings_within(saying)]
    if parts:
        return _with_sayings(saying[0], saying, parts)
    kinds = FORMS[saying[0]]
    entries = [names.get(entry, entry) if kind == "name" else entry for entry, kind in zip(saying[1:], kinds)]
    return (saying[0], *entries)


def turned(saying):
    """A saying that has in each flipped document the matches of this one in the document."""
    check_saying(saying)
    return _turned(saying)


def _turned(saying):
    """The same of what is known to be a saying: what stood behind stands ahead."""
    if saying[0] in ("next", "after"):
        return (saying[0], saying[2], saying[1])
    return _with_sayings(saying[0], saying, [_turned(part) for part in sayings_within(saying)])


def pushed_in(saying):
    """The saying in which not stands at the first seven sorts alone."""
    check_saying(saying)
    pushed = _pushed(saying, False)
    # No way down gets longer: a not at its end stands for one that was on it.
    if _count(pushed, MOST_WITHIN) > MOST_SAYINGS:
        raise TooMany("the saying would have more than forty sayings in it")
    return pushed


def _pushed(saying, denied):
    """The saying, or what denies it, with each not pushed in."""
    sort = saying[0]
    if sort == "not":
        return _pushed(saying[1], not denied)
    parts = [_pushed(part, denied) for part in sayings_within(saying)]
    if not parts:
        return ("not", saying) if denied else saying
    return _with_sayings(DENIED[sort] if denied else sort, saying, parts)
