"""Point 14: sayings turned into others."""

import random
import unittest
from itertools import permutations, product

import helper
from everymatch.documents import flipped
from everymatch.errors import BadNames, BadSaying, TooMany
from everymatch.meaning import matches
from everymatch.sayings import free_names, is_saying, named_anew, pushed_in, read_saying, turned, write_saying

UNDER = ("child", "x", "y")
TOP = ("top", "x")


def by_chance(seed, many, names="qxyz"):
    rng = random.Random(seed)
    found = []
    while len(found) < many:
        saying = helper.some_saying(rng, 4, names)
        if is_saying(saying):
            found.append(saying)
    return found


def renamed(text, pairs):
    """The text with the names exchanged that the pairs tell."""
    table = str.maketrans(dict((first, second.upper()) for first, second in pairs))
    return text.translate(table).lower()


class NamedAnewTest(unittest.TestCase):
    def test_ordinary(self):
        for pairs, want in (((), UNDER), ((("x", "p"),), ("child", "p", "y")), ((("y", "z"),), ("child", "x", "z")),
                            ((("x", "y"), ("y", "x")), ("child", "y", "x")), ((("x", "x"),), UNDER),
                            ((("x", "y"), ("y", "p")), ("child", "y", "p")),
                            ((("x", "q"), ("y", "p")), ("child", "q", "p"))):
            self.assertEqual(named_anew(UNDER, pairs), want)
            self.assertEqual(named_anew(pairs=pairs, saying=UNDER), want)

    def test_each_sort(self):
        for saying, want in zip(helper.SAYINGS, (
                ("marked", "q", ("a",)), None, ("child", "q", "y"), ("below", "y", "q"), ("next", "q", "y"), None,
                ("same", "q", "y"), ("same", "q", "q"), ("top", "q"), ("both", ("top", "q"), ("child", "q", "y")),
                None, ("not", ("top", "q")), None, ("all", "y", ("child", "q", "y"))), strict=True):
            if want is None:
                with self.assertRaises(BadNames):
                    named_anew(saying, (("x", "q"),))
            else:
                self.assertEqual(named_anew(saying, (("x", "q"),)), want)

    def test_three_names_around(self):
        saying = read_saying("((x over y and z top) or some p (p above z and not y is x))")
        for names in permutations("xyzq", 3):
            pairs = tuple(zip("xyz", names))
            self.assertEqual(write_saying(named_anew(saying, pairs)), renamed(write_saying(saying), pairs))

    def test_a_name_within_some_or_all_stays(self):
        saying = ("both", ("some", "p", ("child", "p", "x")), ("all", "q", ("below", "x", "q")))
        for second in "rstuvwyz":
            want = ("both", ("some", "p", ("child", "p", second)), ("all", "q", ("below", second, "q")))
            self.assertEqual(named_anew(saying, (("x", second),)), want)
        for second in "pq":
            with self.assertRaises(BadNames):
                named_anew(saying, (("x", second),))
        for first in "pq":
            for second in "pqrx":
                with self.assertRaises(BadNames):
                    named_anew(saying, ((first, second),))

    def test_the_name_of_a_some_or_all_that_does_not_stand_in_it(self):
        for sort in ("some", "all"):
            with self.assertRaises(BadNames):
                named_anew((sort, "p", TOP), (("x", "p"),))
            self.assertEqual(named_anew((sort, "p", TOP), (("x", "q"),)), (sort, "p", ("top", "q")))

    def test_what_are_no_pairs(self):
        wrong = helper.ANY_OBJECTS + (
            None, 0, "", "xp", ("x", "p"), ("xp",), [("x", "p")], (["x", "p"],), (("x",),), (("x", "p", "q"),), ((),),
            (("x", "p"), None), (("x", "p"), ["y", "q"]), (("x", "P"),), (("x", "a"),), (("x", ""),), (("x", None),),
            (("x", 0),), (("X", "p"),), ((None, "p"),), (("x", ("p",)),), (("x", helper.Same()),),
            # A name comes twice, or the pairs do not ascend.
            (("x", "p"), ("x", "p")), (("x", "p"), ("x", "q")), (("x", "p"), ("y", "p")), (("y", "p"), ("x", "q")),
            (("x", "y"), ("y", "y")),
            # The first one is not free, or the second one stands in the saying already.
            (("z", "p"),), (("p", "x"),), (("x", "y"),), (("y", "x"),), (("x", "p"), ("z", "q")),
            (("x", "x"), ("y", "x")))
        for pairs in wrong:
            with self.assertRaises(BadNames, msg=repr(pairs)):
                named_anew(UNDER, pairs)
            with self.assertRaises(BadSaying):
                named_anew(("child", "x"), pairs)
        for name in helper.NOT_NAMES:
            for pair in (("x", name), (name, "x"), (name, name)):
                with self.assertRaises(BadNames):
                    named_anew(UNDER, (pair,))

    def test_by_chance(self):
        for saying in by_chance(14, 150, "pqxyz"):
            free = free_names(saying)
            words = write_saying(saying).replace("(", " ").replace(")", " ").split()
            standing = {word for word in words if word in tuple("pqxyz")}
            for many in range(len(free) + 1):
                for names in product("prxyz", repeat=many):
                    pairs = tuple(zip(free, names))
                    bad = len(set(names)) < many or (set(names) & standing) - set(free[:many])
                    if not bad:
                        newer = named_anew(saying, pairs)
                        self.assertTrue(is_saying(newer))
                        self.assertEqual(len(free_names(newer)), len(free))
                    else:
                        with self.assertRaises(BadNames):
                            named_anew(saying, pairs)


class TurnedTest(unittest.TestCase):
    def test_matches_in_flipped_documents(self):
        documents = helper.lettered(5)[-70:] + helper.all_documents(3, "ab")
        told = [text.replace("M", "acd").replace("N", "b").replace("K", "bdf") for text in helper.TOLD]
        sayings = by_chance(15, 40) + [read_saying(text) for text in told] + helper.relations("xy")
        for number, saying in enumerate(sayings):
            other = turned(saying=saying)
            self.assertTrue(is_saying(other))
            self.assertEqual(free_names(other), free_names(saying))
            for document in documents[number % 7::7]:
                around = flipped(document)
                new = [around_number(document, node) for node in range(len(document))]
                want = sorted(tuple(new[node] for node in nodes) for nodes in matches(saying, document))
                self.assertEqual(matches(other, around), tuple(want))

    def test_great_ones_stay_within_the_bounds(self):
        for saying in (helper.of_many(40), helper.of_many(40, ("next", "x", "y")),
                       helper.nested("not", range(11), ("after", "x", "y"))):
            self.assertTrue(is_saying(turned(saying)))


def around_number(document, node):
    """The number of the node in the flipped document: behind all above it, and all that stood behind it."""
    behind = [one for one in range(node + 1, len(document))]
    end = next((one for one in behind if document[one][1] <= document[node][1]), len(document))
    return document[node][1] + len(document) - end


def pushed_plainly(text):
    """The text with each not pushed in, one step at a time."""
    steps = 1
    saying = read_saying(text)
    while steps:
        saying, steps = step_in(saying)
    return saying


def step_in(saying):
    """The saying with the outermost nots pushed in by one step, and how many of them were."""
    sort = saying[0]
    if sort in ("some", "all"):
        inner, steps = step_in(saying[2])
        return (sort, saying[1], inner), steps
    if sort in ("both", "either"):
        first, steps = step_in(saying[1])
        second, more = step_in(saying[2])
        return (sort, first, second), steps + more
    if sort != "not":
        return saying, 0
    inner = saying[1]
    if inner[0] == "not":
        return inner[1], 1
    if inner[0] in ("some", "all"):
        return ({"some": "all", "all": "some"}[inner[0]], inner[1], ("not", inner[2])), 1
    if inner[0] in ("both", "either"):
        return ({"both": "either", "either": "both"}[inner[0]], ("not", inner[1]), ("not", inner[2])), 1
    return saying, 0


class PushedInTest(unittest.TestCase):
    def test_each_sort(self):
        for text, once in (("x in ab", "not x in ab"), ("x over y", "not x over y"), ("x above y", "not x above y"),
                           ("x then y", "not x then y"), ("x ahead y", "not x ahead y"), ("x is y", "not x is y"),
                           ("x top", "not x top"), ("(x top and y top)", "(not x top or not y top)"),
                           ("(x top or y top)", "(not x top and not y top)"), ("some y y top", "all y not y top"),
                           ("all y y top", "some y not y top")):
            for nots in range(6):
                want = once if nots % 2 else text
                self.assertEqual(write_saying(pushed_in(read_saying("not " * nots + text))), want)

    def test_nested(self):
        for text, want in (("not (x top and not y top)", "(not x top or y top)"),
                           ("not some p all q (p is q or not q top)", "all p some q (not p is q and q top)"),
                           ("(not not x top and some p not not not p top)", "(x top and some p not p top)"),
                           ("not (not (x top or y top) and all p p top)", "((x top or y top) or some p not p top)")):
            self.assertEqual(write_saying(pushed_in(saying=read_saying(text))), want)

    def test_by_chance(self):
        documents = helper.all_documents(3, "a")
        for number, saying in enumerate(by_chance(16, 300)):
            pushed = pushed_in(saying)
            self.assertTrue(is_saying(pushed))
            self.assertEqual(pushed, pushed_plainly(write_saying(saying)))
            document = documents[number % len(documents)]
            if free_names(pushed) == free_names(saying):
                self.assertEqual(matches(pushed, document), matches(saying, document))
            self.assertEqual(pushed_in(pushed), pushed)

    def test_forty_sayings(self):
        for leaves in range(2, 20):
            # Of so many leaves, a both between each two: a not for each leaf comes, the one around goes.
            saying = ("not", helper.of_many(2 * leaves - 1))
            if 3 * leaves - 1 <= 40:
                self.assertTrue(is_saying(pushed_in(saying)))
            else:
                with self.assertRaises(TooMany):
                    pushed_in(saying)
        thirteen = ("not", helper.of_many(25))
        self.assertTrue(is_saying(pushed_in(("some", "y", ("some", "z", thirteen)))))
        with self.assertRaises(TooMany):
            pushed_in(("some", "y", ("some", "z", ("some", "p", thirteen))))
        with self.assertRaises(BadSaying):
            pushed_in(("not", helper.of_many(40)))

    def test_twelve_within_one_another(self):
        saying = ("not", helper.nested("all", "p", TOP))
        for _ in range(9):
            saying = ("either", saying, TOP)
        self.assertTrue(is_saying(saying) and is_saying(pushed_in(saying)))
        saying = TOP
        for _ in range(10):
            saying = ("both", TOP, saying)
        self.assertTrue(is_saying(pushed_in(("not", saying))))


if __name__ == "__main__":
    unittest.main()
