"""Point 19: the machine of a saying."""

import random
import time
import unittest
from itertools import product

import helper
from everymatch.errors import BadSaying, TooMany
from everymatch.machines import is_machine, least, lets, machine_of, once, takes, without
from everymatch.meaning import matches
from everymatch.sayings import free_names, is_saying, read_saying

SMALL = helper.all_documents(2, "ab") + helper.lettered(3)


class MachineOfTest(unittest.TestCase):
    def check(self, saying, documents):
        """Check the machine of the saying on all layings of the documents: only these of matches are let."""
        machine = machine_of(saying)
        self.assertTrue(is_machine(machine))
        self.assertEqual(machine[0], free_names(saying))
        self.assertEqual(machine, least(machine))
        for document in documents:
            told = {laid(nodes, len(document)) for nodes in helper.matches_plainly(saying, document)}
            for laying in helper.layings(len(document), len(machine[0])):
                self.assertIs(lets(machine, document, laying), laying in told, (saying, document, laying))

    def check_takes(self, saying, documents):
        """The same of each tuple of nodes alone."""
        machine = machine_of(saying)
        self.assertEqual(machine[0], free_names(saying))
        for document in documents:
            told = matches(saying, document)
            for nodes in product(range(len(document)), repeat=len(machine[0])):
                self.assertIs(takes(machine, document, nodes), nodes in told, (saying, document, nodes))

    def test_relations(self):
        for saying in helper.relations("xy"):
            self.check(saying, SMALL)
            self.check(("not", saying), SMALL)
            self.check_takes(saying, helper.lettered(5))

    def test_marks(self):
        eight = tuple("abcdefgh")
        for marks in [eight[:many] for many in range(1, 9)] + [eight[many:] for many in range(8)] + [("b", "g")]:
            self.check(("marked", "q", marks), helper.all_documents(1, "abcdefgh") + SMALL[:10])
        self.assertEqual(machine_of(("marked", "q", eight)), once(("q",)))
        self.assertEqual(machine_of(("same", "q", "q")), once(("q",)))

    def test_never(self):
        nothing = (("x",), ((1, 1),) * 8, 0, ((0, 0), (0, 1)), ())
        for sort in ("child", "below", "next", "after"):
            self.assertEqual(machine_of((sort, "x", "x")), nothing)
        self.assertEqual(machine_of(saying=("not", ("same", "x", "x"))), nothing)

    def test_not_both_either(self):
        relations = helper.relations("xy")
        rng = random.Random(41)
        for sort in ("both", "either"):
            for first in relations:
                for second in rng.sample(relations, 3):
                    self.check((sort, first, ("not", second)), rng.sample(SMALL, 6))
            for first in rng.sample(relations, 6):
                for second in rng.sample(helper.relations("zq"), 2):
                    if len(helper.free_plainly(first) | helper.free_plainly(second)) <= 3:
                        self.check((sort, ("not", first), second), SMALL[:8])
                        self.check_takes((sort, second, first), rng.sample(SMALL, 6))

    def test_some_and_all(self):
        rng = random.Random(42)
        for sort in ("some", "all"):
            for inner in helper.relations("xy"):
                for name in "xyz":
                    self.check((sort, name, inner), SMALL)
                    self.check((sort, name, ("not", inner)), rng.sample(SMALL, 6))
                    self.check(("not", (sort, name, ("either", inner, ("top", name)))), rng.sample(SMALL, 6))

    def test_without_free_names(self):
        for text, least_of in (("some p p top", (False, True)), ("all p p top", (True, True)),
                               ("some p some q p over q", (False, False)), ("all p p in a", (True, True)),
                               ("all q some p p is q", (True, True)), ("not some p p in bc", (True, True)),
                               ("some p all q (p is q or q in a)", (False, True))):
            saying = read_saying(text)
            self.check(saying, SMALL + helper.lettered(5))
            self.assertEqual(machine_of(saying)[0], ())
            self.assertEqual((takes(machine_of(saying), (), ()), takes(machine_of(saying), (("a", 0),), ())), least_of)

    def test_a_name_that_does_not_stand_in_it(self):
        top = ("top", "x")
        for sort in ("some", "all"):
            self.assertEqual(machine_of((sort, "y", top)), machine_of(top))
            self.check((sort, "y", ("some", "x", top)), SMALL)
            self.check((sort, "y", ("all", "x", top)), SMALL)
            self.check((sort, "p", (sort, "q", ("not", ("some", "r", ("top", "r"))))), SMALL)

    def test_told_sayings_with_other_names_and_marks(self):
        rng = random.Random(43)
        documents = helper.all_documents(3, "ab") + helper.lettered(4)
        for text in helper.TOLD:
            for turn in range(6):
                saying = read_saying(changed(rng, text) if turn else changed(None, text))
                began = time.monotonic()
                machine = machine_of(saying)
                self.assertLess(time.monotonic() - began, 5)
                self.assertLessEqual(len(machine[3]), 300)
                self.check_takes(saying, rng.sample(documents, 8))
                if len(machine[0]) < 3:
                    self.check(saying, rng.sample(SMALL, 3))

    def test_sayings_of_two_relations(self):
        rng = random.Random(44)
        documents = helper.all_documents(2, "a") + helper.lettered(4)
        began = time.monotonic()
        tried = 0
        while tried < 250:
            saying = around(rng, 7, (rng.choice(("both", "either")), relation(rng), relation(rng)))
            if is_saying(saying):
                tried += 1
                self.check_takes(saying, rng.sample(documents, 3))
        for text in ("all z not all y (x then z or p ahead q)", "some y not not all p (q then z or x then y)",
                     "not all y not all q (x ahead p or y then z)", "all p some q all r some s all t (p over q or r is s)",
                     "not " * 8 + "some p (x above p and not p above y)",
                     "all p all q all r all s (p over q or not r ahead s)"):
            self.check_takes(read_saying(text), rng.sample(documents, 3))
        self.assertLess(time.monotonic() - began, 100)

    def test_by_chance(self):
        rng = random.Random(45)
        documents = helper.all_documents(3, "ac") + helper.lettered(4)
        tried = 0
        while tried < 150:
            saying = helper.some_saying(rng, 3, "xyzp")
            if is_saying(saying):
                tried += 1
                try:
                    self.check_takes(saying, rng.sample(documents, 4))
                    if len(helper.free_plainly(saying)) < 3:
                        self.check(saying, rng.sample(SMALL, 3))
                except TooMany:
                    self.assertGreater(len(helper.free_plainly(saying)), 2)

    def test_same_sayings_have_the_same_machine(self):
        for first, second in (("not (x top or y top)", "(not y top and not x top)"),
                              ("not some z (x over z and z in a)", "all z (not x over z or not z in a)"),
                              ("some z (x over z and z over y)", "some p (p over y and x over p)"),
                              ("x over y", "(x above y and not some z (x above z and z above y))"),
                              ("(x then y and x is y)", "(x top and not y is y)"),
                              ("x ahead y", "((x then y or some z (x then z and z ahead y)) and not x is y)")):
            self.assertEqual(machine_of(read_saying(first)), machine_of(read_saying(second)))
        self.assertNotEqual(machine_of(read_saying("x over y")), machine_of(read_saying("y over x")))
        both = machine_of(read_saying("(x over y and y top)"))
        self.assertEqual(without(both, "x"), machine_of(read_saying("(y in a and not y is y)")))

    def test_great_documents(self):
        above = machine_of(("below", "x", "y"))
        ahead = machine_of(("after", "x", "y"))
        for document, other in ((helper.GREAT[0], False), (helper.GREAT[1], True)):
            self.assertIs(takes(above, document, (3, 19999)), other)
            self.assertIs(takes(ahead, document, (3, 19999)), not other)
            self.assertIs(takes(above, document, (19999, 3)), False)
            self.assertIs(takes(ahead, document, (19999, 3)), False)

    def test_bad_sayings(self):
        for thing in helper.NOT_SAYINGS + (helper.of_many(41), helper.nested("not", range(12), ("top", "x"))):
            with self.assertRaises(BadSaying):
                machine_of(thing)
            with self.assertRaises(BadSaying):
                machine_of(saying=thing)

    def test_more_than_three_hundred_states_are_refused(self):
        # A node's state, and a top's, tells which of the marks stand anywhere.
        marks = [f"some p p in {mark}" for mark in "abcdefgh"]
        for text, other in (("and", "both"), ("or", "either")):
            saying = read_saying(joined(marks[:7], text))
            self.assertEqual(saying[0], other)
            self.assertEqual(len(machine_of(saying)[3]), 256 if other == "both" else 4)
        self.check(read_saying(joined(marks[:3], "and")), helper.all_documents(3, "abcd"))
        with self.assertRaises(TooMany):
            machine_of(read_saying(joined(marks, "and")))
        with self.assertRaises(TooMany):
            machine_of(("not", read_saying(joined(marks, "and"))))


def laid(nodes, many):
    """The laying in which the names stand at these nodes alone."""
    return tuple(sum(2 ** at for at, one in enumerate(nodes) if one == node) for node in range(many))


def joined(texts, word):
    """The text of all of the sayings, two by two."""
    while len(texts) > 1:
        texts = texts[2:] + [f"({texts[0]} {word} {texts[1]})"]
    return texts[0]


def changed(rng, text):
    """The told saying's text with other names and rows of marks, by chance if rng is not None."""
    rows = {"M": "ac", "N": "b", "K": "bd"}
    if rng is None:
        return "".join(rows.get(sign, sign) for sign in text)
    names = dict(zip("xyzpqrst", rng.sample("xyzpqrst", 8)))
    rows = {row: "".join(sorted(rng.sample("abcdefgh", rng.choice((1, 2, 3, 8))))) for row in rows}
    words = text.replace("(", "( ").replace(")", " )").split()
    return " ".join(names.get(word, rows.get(word, word)) for word in words).replace("( ", "(").replace(" )", ")")


def relation(rng):
    """One of the first seven sorts by chance, perhaps with nots, somes and alls around it."""
    saying = rng.choice(helper.relations("pqxyz"))
    return around(rng, rng.choice((0, 0, 0, 1, 2)), saying)


def around(rng, most, saying):
    """The saying with at most so many nots, somes and alls around it."""
    for _ in range(rng.randrange(most + 1)):
        sort = rng.choice(("not", "some", "all"))
        saying = (sort, saying) if sort == "not" else (sort, rng.choice("pqxyz"), saying)
    return saying


if __name__ == "__main__":
    unittest.main()
