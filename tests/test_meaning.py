"""Point 12: the matches of sayings in small documents."""

import random
import time
import unittest
from itertools import product

import helper
from everymatch.documents import read_document
from everymatch.errors import BadDocument, BadNodes, BadSaying
from everymatch.meaning import holds, matches
from everymatch.sayings import free_names, is_saying, read_saying

# a(b c(d)) e f
SMALL = read_document("a(b c(d)) e f")
PAIRS = {"child": ((0, 1), (0, 2), (2, 3)), "below": ((0, 1), (0, 2), (0, 3), (2, 3)),
         "next": ((0, 4), (1, 2), (4, 5)), "after": ((0, 4), (0, 5), (1, 2), (4, 5)),
         "same": tuple((node, node) for node in range(6))}


class RelationsTest(unittest.TestCase):
    def test_marked(self):
        for marks, want in (("a", (0,)), ("be", (1, 4)), ("g", ()), ("abcdef", (0, 1, 2, 3, 4, 5))):
            self.assertEqual(matches(("marked", "x", tuple(marks)), SMALL), tuple((node,) for node in want))

    def test_top(self):
        self.assertEqual(matches(("top", "x"), SMALL), ((0,), (4,), (5,)))

    def test_pairs(self):
        for sort, want in PAIRS.items():
            self.assertEqual(matches((sort, "x", "y"), SMALL), want, sort)
            self.assertEqual(matches(document=SMALL, saying=(sort, "x", "y")), want, sort)
            # The names are sorted, whatever they tell.
            around = tuple(sorted((second, first) for first, second in want))
            self.assertEqual(matches((sort, "y", "x"), SMALL), around, sort)
            one = tuple((node,) for node in range(6)) if sort == "same" else ()
            self.assertEqual(matches((sort, "x", "x"), SMALL), one, sort)
            for nodes in product(range(6), repeat=2):
                self.assertIs(holds((sort, "x", "y"), SMALL, nodes), nodes in want)
                self.assertIs(holds(nodes=nodes, document=SMALL, saying=(sort, "y", "x")), nodes[::-1] in want)

    def test_all_small_documents(self):
        for saying in helper.relations("xy"):
            for document in helper.lettered(5):
                self.check(saying, document)

    def check(self, saying, document):
        want = helper.matches_plainly(saying, document)
        self.assertEqual(matches(saying, document), tuple(want), (saying, document))
        for nodes in product(range(len(document)), repeat=len(free_names(saying))):
            self.assertIs(holds(saying, document, nodes), nodes in want)

    def test_sayings_by_chance(self):
        rng = random.Random(17)
        documents = helper.lettered(4) + helper.all_documents(2, "abc")
        for names in ("xy", "pqxyz", "xyz"):
            for _ in range(250):
                saying = helper.some_saying(rng, 4, names)
                if is_saying(saying):
                    self.check(saying, rng.choice(documents))

    def test_four_and_five_names(self):
        texts = ("some p some q ((x over p and p ahead q) and (y above q or z is q))",
                 "(x is x and (y is y and all p some z (z over p or (x is p or y above p))))",
                 "some p all q some r all s some t ((p is q or r is s) and (t above p or t top))",
                 "all p all q all r all s all t not ((p over q and q over r) and (r over s and s over t))")
        documents = [helper.chain(5), helper.chain(4), helper.comb(4), helper.row(3), SMALL[:4], (), helper.row(1)]
        for text in texts:
            for document in documents:
                self.check(read_saying(text), document)


class NoNodesAndNoNamesTest(unittest.TestCase):
    def test_the_document_without_nodes(self):
        for sort, want in (("some", ()), ("all", ((),))):
            for inner in (("top", "x"), ("not", ("top", "x")), ("some", "y", ("same", "x", "y"))):
                self.assertEqual(matches((sort, "x", inner), ()), want)
                self.assertIs(holds((sort, "x", inner), (), ()), sort == "all")
                self.assertEqual(matches(("not", (sort, "x", inner)), ()), ((),) if sort == "some" else ())
        for saying in helper.relations("xyz"):
            self.assertEqual(matches(saying, ()), ())
            self.assertEqual(matches(("not", saying), ()), ())
        self.assertEqual(matches(read_saying("(x over y or some p (p is z or p top))"), ()), ())
        self.assertEqual(matches(read_saying("all p some q all r some s all t p is t"), ()), ((),))

    def test_a_name_that_does_not_stand_in_it(self):
        for document in ((), helper.row(1), SMALL):
            some = helper.nested("some", "p", helper.nested("all", "q", ("top", "q")))
            self.check_sentence(some, document, document == helper.row(1))
            self.check_sentence(("all", "p", ("some", "q", ("top", "q"))), document, True)
            self.check_sentence(("some", "p", ("all", "q", ("same", "q", "q"))), document, document != ())
            self.assertEqual(matches(("some", "p", ("top", "x")), document), matches(("top", "x"), document))
            self.assertEqual(matches(("all", "p", ("top", "x")), document), matches(("top", "x"), document))

    def check_sentence(self, saying, document, right):
        self.assertEqual(matches(saying, document), ((),) if right else ())
        self.assertIs(holds(saying, document, ()), right)


class ErrorsTest(unittest.TestCase):
    def test_bad_documents(self):
        long = helper.NOT_DOCUMENTS + tuple(make(many) for make in (helper.row, helper.chain, helper.comb)
                                            for many in (31, 32, 1000, 20000))
        for document in long:
            with self.assertRaises(BadDocument):
                matches(("top", "x"), document)
            with self.assertRaises(BadDocument):
                holds(("top", "x"), document, None)
            with self.assertRaises(BadSaying):
                matches(("top", "a"), document)
            with self.assertRaises(BadSaying):
                holds(("top", "a"), document, None)

    def test_bad_nodes(self):
        for node in helper.NOT_NODES + (None, 6, 7):
            for saying, nodes in ((("top", "x"), (node,)), (("same", "x", "y"), (0, node)),
                                  (("same", "x", "y"), (node, 0))):
                with self.assertRaises(BadNodes):
                    holds(saying, SMALL, nodes)
        for nodes in helper.ANY_OBJECTS + (None, 0, "", "0", (), [0], [], (0, 0), ((0,),), ([0],), (0, 1, 2)):
            with self.assertRaises(BadNodes):
                holds(("top", "x"), SMALL, nodes)
        for nodes in ((0,), [()], [], ((),), None):
            with self.assertRaises(BadNodes):
                holds(("some", "x", ("top", "x")), SMALL, nodes)
        with self.assertRaises(BadNodes):
            holds(("top", "x"), (), (0,))


class GreatOnesTest(unittest.TestCase):
    def test_thirty_nodes(self):
        self.assertEqual(len(matches(("same", "x", "x"), helper.row(30))), 30)
        self.assertEqual(matches(("next", "x", "y"), helper.row(30)), tuple((one, one + 1) for one in range(29)))
        self.assertEqual(len(matches(("below", "x", "y"), helper.chain(30))), 435)
        three = read_saying("(x is x and (y is y and z is z))")
        self.assertEqual(matches(three, helper.comb(30)), tuple(product(range(30), repeat=3)))
        chain = read_saying("some q (x above q and (q above y and some p (p above y and p above z)))")
        want = tuple((x, y, z) for x, y, z in product(range(30), repeat=3) if x + 1 < y and z > 0)
        self.assertEqual(matches(chain, helper.chain(30)), want)

    def test_great_sayings_are_answered_soon(self):
        rng = random.Random(18)
        document = tuple(("abcdefgh"[node % 8], (0, 1, 2, 2, 3, 1)[node % 6]) for node in range(30))
        begun = time.monotonic()
        for around, free in (("", "xyz"), ("pq", "xyz"), ("pqr", "xy"), ("pqrst", "")):
            leaves = [rng.choice(helper.relations(around + free)) for _ in range(17)]
            inner = helper.of_many(33 - len(around))
            saying = helper.nested(rng.choice(("some", "all")), around, filled(inner, leaves * 3, rng))
            saying = ("either", saying, ("both", ("same", free[0], free[1]), ("top", free[-1]))) if free else saying
            self.assertTrue(is_saying(saying))
            found = matches(saying, document)
            for nodes in rng.choices(tuple(product(range(30), repeat=len(free))), k=30):
                self.assertIs(holds(saying, document, nodes), nodes in found)
        twelve = read_saying("some q " + "not " * 7 + "some p ((x is y or p over z) and q above x)")
        for nodes in rng.choices(matches(twelve, document), k=30):
            self.assertIs(holds(twelve, document, nodes), True)
        self.assertLess(time.monotonic() - begun, 20)


def filled(saying, leaves, rng):
    """The saying with its leaves exchanged for those told, and some of its boths for eithers."""
    if saying[0] == "both":
        return (rng.choice(("both", "either")), filled(saying[1], leaves, rng), filled(saying[2], leaves, rng))
    return ("not", filled(saying[1], leaves, rng)) if saying[0] == "not" else leaves.pop()


if __name__ == "__main__":
    unittest.main()
