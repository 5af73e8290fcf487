"""Point 20: sayings in all documents."""

import random
import time
import unittest

import helper
from everymatch.documents import is_document
from everymatch.errors import BadSaying, BadSayings, TooMany
from everymatch.everywhere import Grown, _smallest, in_all, same_everywhere, some_document
from everymatch.machines import machine_of, once
from everymatch.meaning import holds, matches
from everymatch.sayings import free_names, is_saying, pushed_in, read_saying

SMALL = helper.all_documents(3, "abc") + helper.all_documents(4, "a")
BY_SIZE = sorted(SMALL, key=len)

# Of each group all have the same matches.
ALIKE = (
    ("(x in a and x top)", "(x top and x in a)", "not (not x top or not x in a)", "(x is x and (x in a and x top))"),
    ("(x over y or y over x)", "(y over x or x over y)", "not (not x over y and not y over x)"),
    ("some z (x over z and z over y)", "not all z not (x over z and z over y)",
     "some z (z over y and x over z)", "all q some z (x over z and (z over y and x is x))"),
    ("x over y", "(x above y and not some z (x above z and z above y))",
     "(x above y and all z (not x above z or not z above y))"),
    ("some p p top", "some p some q p is q", "not all p not p is p"),
    ("x top", "not some y y over x", "not some y y above x", "all y not y over x"),
    ("some p not p top", "some p some q p over q", "some p some q q above p", "not all p p top"),
    ("x ahead y", "((x then y or some z (x then z and z ahead y)) and not x is y)"),
    ("(x above y and x above z)", "(x above z and x above y)"),
    ("not x top", "some p p over x"),
    ("(x then y and x is y)", "(x over y and y over x)", "(x above y and (x top and y ahead x))"),
    ("x over x", "(x top and some p p over x)", "(x in ab and not x in abc)"),
)

# Two sayings, and how many nodes the smallest document that tells them apart has.
NEAR = (
    ("some p p top", "all p p top", 0),
    ("some p p in a", "not some p p in a", 0),
    ("all p p in a", "some p p is p", 0),
    ("x top", "not x top", 1), ("x in a", "x in ab", 1), ("x is y", "x ahead y", 1), ("x is y", "not x is y", 1),
    ("some p p top", "some p some q p over q", 1), ("all p p in a", "all p p in ab", 1),
    ("x over y", "y over x", 2), ("x then y", "(x ahead y and y ahead x)", 2), ("x over y", "x ahead y", 2),
    ("x top", "(x top and not some y x over y)", 2), ("all p p top", "all p all q not p then q", 2),
    ("x over y", "x above y", 3), ("x then y", "x ahead y", 3), ("all p all q not p ahead q", "all p all q p is q", 2),
    ("some p some q p over q", "some p some q (p over q and not q in a)", 2),
    ("(x above y and y above z)", "(x over y and y over z)", 4),
    ("some p some q p above q", "some p some q some r (p above q and q above r)", 2),
    ("x above y", "(x over y or some z (x over z and z over y))", 4),
    ("x ahead y", "(x then y or some z (x then z and z then y))", 4),
    ("x ahead y", "(x then y or some z (x then z and (z then y or some q (z then q and q then y))))", 5),
)


class EverywhereTest(unittest.TestCase):
    def check_match(self, told, names):
        """Check the form of an answer."""
        self.assertIsInstance(told, tuple)
        document, nodes = told
        self.assertTrue(is_document(document))
        self.assertIsInstance(nodes, tuple)
        self.assertEqual(len(nodes), len(names))
        self.assertTrue(all(type(node) is int and 0 <= node < len(document) for node in nodes))

    def check_apart(self, first, second):
        """Check that the two are told apart, by as few nodes as any; return their number."""
        told = same_everywhere(first, second)
        self.check_match(told, free_names(first))
        document, nodes = told
        self.assertNotEqual(holds(first, document, nodes), holds(second, document, nodes))
        for small in BY_SIZE:
            if len(small) >= len(document):
                break
            self.assertEqual(matches(first, small), matches(second, small), small)
        return len(document)

    def test_alike(self):
        for group in ALIKE:
            sayings = [read_saying(text) for text in group]
            for first in sayings:
                for second in sayings:
                    self.assertIsNone(same_everywhere(first, second), (first, second))

    def test_unlike_groups(self):
        for group in ALIKE:
            for other in ALIKE:
                first, second = read_saying(group[0]), read_saying(other[-1])
                if group != other and free_names(first) == free_names(second):
                    self.check_apart(first, second)

    def test_near(self):
        for text, other, many in NEAR:
            first, second = read_saying(text), read_saying(other)
            self.assertEqual(self.check_apart(first, second), many, (text, other))
            self.assertEqual(self.check_apart(second, first), many, (text, other))

    def test_more_nodes_than_are_tried(self):
        # There are far too many documents of so many nodes to try them all.
        rows = "some q (x over q and some r (q then r and some s (r then s and some t s then t)))"
        down = "some q (x over q and some r (q over r and some s (r over s and some t s over t)))"
        saying = read_saying(f"(x in h and ({rows} and {down}))")
        document, nodes = some_document(saying)
        self.assertEqual((len(document), nodes, document[0]), (8, (0,), ("h", 0)))
        self.assertTrue(holds(saying, document, nodes))
        down = "some q (x over q and some r (q over r and some s (r over s and some t (s over t and t in {}))))"
        first, second = read_saying(down.format("a")), read_saying(down.format("ab"))
        document, nodes = same_everywhere(first, second)
        self.assertEqual((document[1:4:2], document[4], nodes), (((document[1][0], 1), (document[3][0], 3)),
                                                                 ("b", 4), (0,)))
        self.assertEqual([depth for _, depth in document], [0, 1, 2, 3, 4])

    def test_some_document(self):
        for text, many in (("x top", 1), ("some p p top", 1), ("all p p top", 0), ("x over y", 2), ("x is x", 1),
                           ("(x over y and y over z)", 3), ("(x then y and y then z)", 3), ("not x top", 2),
                           ("(x in a and y in b)", 2), ("(x in a and y in a)", 1), ("(x ahead y and not x then y)", 3),
                           ("some p some q (p over q and not q in a)", 2), ("not some p p in a", 0)):
            saying = read_saying(text)
            told = some_document(saying)
            self.check_match(told, free_names(saying))
            self.assertEqual(len(told[0]), many, text)
            self.assertTrue(holds(saying, *told))
            self.assertFalse([small for small in SMALL if len(small) < many and matches(saying, small)])

    def test_no_document(self):
        for text in ("x over x", "(x over y and y over x)", "(some p p top and not some p p is p)", "not x is x",
                     "(x in a and x in bcd)", "some p p above p", "(x then y and (y then z and z then x))",
                     "some p all q (p over q and q in a)", "all p (some q (q over p and q in b) and not p is p)"):
            saying = read_saying(text)
            if text.startswith("all"):
                self.assertEqual(some_document(saying), ((), ()))
            else:
                self.assertIsNone(some_document(saying), text)

    def test_in_all(self):
        for text, holding, opposite in (("x is x", True, False), ("not x over x", True, False), ("x top", False, False),
                                        ("x over x", False, True), ("some p p is p", False, False),
                                        ("all p p is p", True, False), ("some p not p is p", False, True),
                                        ("(x in abcd or x in efgh)", True, False), ("x in abcdefg", False, False),
                                        ("x in abcdefgh", True, False), ("(x above y or not x over y)", True, False),
                                        ("(x over y or not x above y)", False, False), ("all p p top", False, False),
                                        ("(not x then y or not y ahead x)", True, False),
                                        ("((x above y or y above x) or (x is y or not x over y))", True, False),
                                        ("(not (x over y and y over z) or x above z)", True, False),
                                        ("all q (not q top or all p not p above q)", True, False)):
            saying = read_saying(text)
            self.assertIs(in_all(saying), holding, text)
            self.assertIs(in_all(("not", saying)), opposite, text)

    def test_without_nodes(self):
        # Without free names the document without nodes is one of all, with free names it has no tuple.
        self.assertIs(in_all(read_saying("some p p is p")), False)
        self.assertEqual(same_everywhere(read_saying("some p p is p"), read_saying("all p p is p")), ((), ()))
        self.assertIs(in_all(read_saying("(x is x or some p p in a)")), True)
        self.assertEqual(some_document(read_saying("not some p p is p")), ((), ()))

    def test_told_sayings(self):
        for text in helper.TOLD:
            saying = read_saying(text.replace("M", "ac").replace("N", "b").replace("K", "bd"))
            began = time.monotonic()
            told = some_document(saying)
            self.check_match(told, free_names(saying))
            self.assertTrue(holds(saying, *told))
            self.assertFalse([small for small in SMALL if len(small) < len(told[0]) and matches(saying, small)])
            self.assertIs(in_all(saying), False)
            self.assertIsNone(same_everywhere(saying, pushed_in(saying)))
            self.check_apart(saying, ("not", saying))
            for change in (("acx", "cx"), ("over", "above"), ("above", "over"), ("then", "ahead")):
                other = read_saying(text.replace("M", "c").replace("N", "b").replace("K", "bd").replace(*change))
                if machine_of(other) != machine_of(saying):
                    self.check_apart(saying, other)
            self.assertLess(time.monotonic() - began, 10)

    def test_by_chance(self):
        rng = random.Random(51)
        tried = alike = 0
        while tried < 120:
            first, second = (helper.some_saying(rng, 3, "xyp") for _ in range(2))
            if not is_saying(first) or not is_saying(second) or free_names(first) != free_names(second):
                continue
            tried += 1
            if same_everywhere(first, second) is None:
                alike += 1
                self.assertEqual([matches(first, small) for small in SMALL], [matches(second, small) for small in SMALL])
            else:
                self.check_apart(first, second)
            whole = machine_of(first)
            self.assertIs(in_all(first), whole == once(free_names(first)))
            self.assertIs(in_all(first), not is_saying(("not", first)) or some_document(("not", first)) is None)
        self.assertGreater(alike, 5)

    def test_bad_sayings(self):
        top = ("top", "x")
        for thing in helper.NOT_SAYINGS + (helper.of_many(41),):
            for call in (lambda: same_everywhere(thing, top), lambda: same_everywhere(top, thing),
                         lambda: same_everywhere(saying=thing, other=None), lambda: some_document(thing),
                         lambda: in_all(saying=thing), lambda: some_document(saying=thing)):
                with self.assertRaises(BadSaying):
                    call()

    def test_unlike_free_names(self):
        for text, other in (("x top", "y top"), ("x top", "x is y"), ("x top", "some x x top"),
                            ("(x over y or y over z)", "x over y"), ("x is p", "x is q")):
            with self.assertRaises(BadSayings):
                same_everywhere(read_saying(text), read_saying(other))
            with self.assertRaises(BadSayings):
                same_everywhere(other=read_saying(text), saying=read_saying(other))

    def test_machines_of_too_many_states(self):
        great = read_saying(helper.eight_marks("and"))
        small = read_saying("some p p in a")
        for call in (lambda: some_document(great), lambda: in_all(great), lambda: same_everywhere(great, small),
                     lambda: same_everywhere(small, great), lambda: same_everywhere(great, great)):
            with self.assertRaises(TooMany):
                call()
        with self.assertRaises(BadSayings):
            same_everywhere(great, read_saying("x top"))
        with self.assertRaises(BadSaying):
            same_everywhere(great, None)

    def test_documents_of_too_many_nodes(self):
        # Each state is come to by two pieces of the one ahead of it, side by side: so nodes are doubled.
        def step(state, by):
            return by + 1 if state == "top" or state == by else state

        for doublings in (3, 14):
            document, nodes = _smallest(Grown([[0]] * 8, "top", step), lambda key: key == doublings, 0)
            self.assertEqual((len(document), nodes), (2 ** (doublings - 1), ()))
            self.assertTrue(is_document(document))
        with self.assertRaises(TooMany):
            _smallest(Grown([[0]] * 8, "top", step), lambda key: key == 16, 0)

    def test_documents_of_just_too_many_nodes(self):
        # Along the top pieces are awaited that are all doubled so often: their sizes are those of a sum.
        def step(awaited):
            def stepped(state, by):
                if isinstance(state, tuple):
                    return state[1:] if state and state[0] == by else state
                return by + 1 if state == by else state
            return Grown([[0]] * 8, awaited, stepped)

        self.assertEqual(2 ** 14 + 2 ** 11 + 2 ** 10 + 2 ** 9 + 2 ** 5, 20000)
        document, nodes = _smallest(step((14, 5, 11, 10, 9)), lambda key: key == (), 0)
        self.assertEqual((len(document), nodes, is_document(document)), (20000, (), True))
        with self.assertRaises(TooMany):
            _smallest(step((14, 5, 0, 11, 10, 9)), lambda key: key == (), 0)


if __name__ == "__main__":
    unittest.main()
