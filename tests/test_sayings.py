"""Point 11: sayings and their free names."""

import random
import unittest

import helper
from everymatch import meaning, sayings
from everymatch.errors import BadSaying
from everymatch.sayings import free_names, is_saying

TOP = ("top", "x")

# Each function of a saying in these files, and what stands behind the saying among its arguments.
CALLS = ((sayings, "free_names", {}), (sayings, "write_saying", {}), (sayings, "named_anew", {"pairs": 0}),
         (sayings, "turned", {}), (sayings, "pushed_in", {}), (meaning, "matches", {"document": 0}),
         (meaning, "holds", {"document": 0, "nodes": 0}))

OTHERS = {"both": "either", "either": "both", "some": "all", "all": "some", "top": "marked", "marked": "top",
          "not": "both"}


class IsSayingTest(unittest.TestCase):
    def check(self, thing, right):
        self.assertIs(is_saying(thing), right, repr(thing)[:200])

    def test_each_sort(self):
        for thing in helper.SAYINGS:
            self.check(thing, True)
            self.check(("not", thing), True)
        self.assertIs(is_saying(thing=TOP), True)
        for name in "pqrstuvwxyz":
            self.check(("top", name), True)

    def test_what_is_no_saying(self):
        for thing in helper.NOT_SAYINGS:
            for whole in (thing, ("not", thing), ("both", TOP, thing), ("both", thing, TOP), ("either", TOP, thing),
                          ("either", thing, TOP), ("some", "y", thing), ("all", "y", thing)):
                self.check(whole, False)

    def test_lists_for_tuples_at_any_depth(self):
        for thing in helper.SAYINGS:
            for whole in (thing, ("not", thing)):
                worse = helper.changed_entries(whole, lambda one: [list(one)] if isinstance(one, tuple) else [])
                self.assertGreater(len(worse), 0)
                for other in worse:
                    self.check(other, False)

    def test_an_entry_more_or_fewer(self):
        for thing in helper.SAYINGS:
            for entry in ("x", ("a",), TOP, None):
                self.check(thing + (entry,), False)
            self.check(thing[:-1], False)
            self.check(thing[:1] + thing[2:], False)
            self.check(thing[1:], False)

    def test_other_words(self):
        for thing in helper.SAYINGS:
            for word in helper.ANY_OBJECTS + (None, 0, "", "x", "markes", "top ", " top", "Both", ("not",)):
                self.check((word,) + thing[1:], False)
            if thing[0] in OTHERS:
                other = (OTHERS[thing[0]],) + thing[1:]
                self.check(other, thing[0] in ("both", "either", "some", "all"))

    def test_names(self):
        for name in helper.NOT_NAMES:
            self.check(("top", name), False)
            self.check(("marked", name, ("a",)), False)
            self.check(("some", name, TOP), False)
            self.check(("all", name, TOP), False)
            for sort in ("child", "below", "next", "after", "same"):
                self.check((sort, name, "x"), False)
                self.check((sort, "x", name), False)

    def test_marks(self):
        for marks in helper.NOT_ROWS_OF_MARKS:
            self.check(("marked", "x", marks), False)
        for marks in ("a", "h", "ab", "ah", "bdf", "abcdefgh"):
            self.check(("marked", "x", tuple(marks)), True)
        for first in "abcdefgh":
            for second in "abcdefgh":
                self.check(("marked", "x", (first, second)), first < second)

    def test_forty_sayings(self):
        for many in range(1, 60):
            self.check(helper.of_many(many), many <= 40)
        self.check(("some", "y", helper.of_many(39)), True)
        self.check(("some", "y", helper.of_many(40)), False)
        self.check(("either", helper.of_many(20), helper.of_many(19)), True)
        self.check(("either", helper.of_many(20), helper.of_many(20)), False)

    def test_twelve_within_one_another(self):
        for many in range(1, 30):
            self.check(helper.nested("not", range(many), TOP), many < 12)
            self.check(("both", TOP, helper.nested("not", range(many), TOP)), many < 11)
            self.check(("both", helper.nested("not", range(many), TOP), TOP), many < 11)
        twelve = helper.nested("all", "pq", helper.nested("not", range(8), ("either", TOP, TOP)))
        self.check(twelve, True)
        self.check(("some", "r", twelve), False)

    def test_three_free_names(self):
        three = ("both", ("child", "x", "y"), ("top", "z"))
        self.check(three, True)
        self.check(("both", three, ("top", "y")), True)
        self.check(("both", three, ("top", "p")), False)
        self.check(("some", "p", ("both", three, ("top", "p"))), True)
        self.check(("both", three, ("some", "p", ("top", "p"))), True)
        self.check(("both", ("child", "x", "y"), ("child", "z", "p")), False)

    def test_five_names_at_one_place(self):
        self.check(helper.nested("some", "pqrst", ("top", "p")), True)
        self.check(helper.nested("some", "pqrstu", ("top", "p")), False)
        self.check(helper.nested("all", "pqrst", ("top", "x")), False)
        self.check(helper.nested("all", "pqrs", ("top", "x")), True)
        three = ("both", ("child", "x", "y"), ("top", "z"))
        self.check(("both", three, helper.nested("some", "pq", ("same", "p", "q"))), True)
        self.check(("both", three, helper.nested("all", "pqr", ("same", "p", "q"))), False)
        # The free names of the whole count at each place, also where they do not stand.
        self.check(("both", three, helper.nested("all", "pqr", ("top", "r"))), False)
        self.check(("both", ("top", "x"), helper.nested("all", "pqrs", ("top", "r"))), True)
        self.check(("both", ("top", "x"), helper.nested("all", "pqrst", ("top", "r"))), False)
        beside = ("both", helper.nested("some", "pq", ("top", "p")), helper.nested("all", "rs", ("top", "r")))
        self.check(("both", three, beside), True)

    def test_some_and_all_of_one_name(self):
        for first in ("some", "all"):
            for second in ("some", "all"):
                inner = (second, "x", TOP)
                self.check((first, "x", inner), False)
                self.check((first, "x", ("not", ("both", inner, TOP))), False)
                self.check((first, "x", ("some", "y", inner)), False)
                self.check((first, "y", inner), True)
                self.check(("both", (first, "x", TOP), inner), True)
            self.check(("both", (first, "x", TOP), TOP), False)
            self.check(("either", TOP, ("not", (first, "x", TOP))), False)
            self.check(("either", ("child", "y", "x"), (first, "x", ("top", "y"))), False)
            self.check(("either", ("some", "x", TOP), (first, "x", ("top", "y"))), True)

    def test_a_name_that_does_not_stand_in_it(self):
        self.check(("some", "y", TOP), True)
        self.check(("all", "y", ("all", "z", TOP)), True)
        self.check(("some", "y", ("all", "y", TOP)), False)
        self.check(("both", ("top", "y"), ("some", "y", TOP)), False)

    def test_far_too_deep(self):
        for many in (12, 300, 2000, 100000):
            self.assertIs(is_saying(helper.nested("not", range(many), TOP)), False)
            self.assertIs(is_saying(helper.nested("not", range(many), None)), False)
        lists, wide = [], TOP
        for _ in range(47):
            lists, wide = [lists], ("both", wide, wide)
            for thing in (lists, ("not", lists), wide):
                self.assertIs(is_saying(thing), is_small(thing))

    def test_sayings_by_chance(self):
        rng = random.Random(11)
        for _ in range(2000):
            thing = helper.some_saying(rng, 4, "pqxyz")
            self.check(thing, right_plainly(thing))


def is_small(wide):
    """Whether a saying of two equal ones, each of two equal ones, and so on, is of at most forty."""
    deep = 0
    while isinstance(wide, tuple) and wide[0] == "both":
        deep, wide = deep + 1, wide[1]
    return 0 < deep < 5


def right_plainly(thing):
    """Whether the form of a saying keeps to the bounds of point 11."""
    free = helper.free_plainly(thing)
    ways = list(ways_down(thing))
    names = [[one[1] for one in way if one[0] in ("some", "all")] for way in ways]
    return (len(free) <= 3 and max(map(len, ways)) <= 12 and count(thing) <= 40
            and all(len(set(row)) == len(row) and not free & set(row) and len(row) + len(free) <= 5 for row in names))


def ways_down(thing):
    """Each way from the whole to one of the first seven sorts."""
    parts = [part for part in thing[1:] if isinstance(part, tuple) and isinstance(part[0], str) and thing[0] != "marked"]
    if not parts:
        yield [thing]
    for part in parts:
        for way in ways_down(part):
            yield [thing] + way


def count(thing):
    """How many sayings there are in the text of the saying."""
    parts = [part for part in thing[1:] if isinstance(part, tuple) and thing[0] != "marked"]
    return 1 + sum(map(count, parts))


class FreeNamesTest(unittest.TestCase):
    def test_each_sort(self):
        told = ("x", "p", "xy", "xy", "xy", "pz", "xy", "x", "x", "xy", "pz", "x", "", "x")
        for thing, names in zip(helper.SAYINGS, told, strict=True):
            self.assertEqual(free_names(thing), tuple(names), thing)
            self.assertEqual(free_names(saying=("not", thing)), tuple(names), thing)

    def test_within_some_and_all(self):
        self.assertEqual(free_names(("some", "x", ("child", "x", "y"))), ("y",))
        self.assertEqual(free_names(("some", "z", ("child", "x", "y"))), ("x", "y"))
        self.assertEqual(free_names(("all", "y", ("some", "x", ("child", "x", "y")))), ())
        beside = ("both", ("some", "y", ("top", "y")), ("child", "z", "p"))
        self.assertEqual(free_names(beside), ("p", "z"))

    def test_by_chance(self):
        rng = random.Random(12)
        for _ in range(1000):
            thing = helper.some_saying(rng, 4, "pqxyz")
            if is_saying(thing):
                self.assertEqual(free_names(thing), tuple(sorted(helper.free_plainly(thing))))

    def test_bad_saying_comes_ahead_of_all(self):
        wrong = helper.NOT_SAYINGS + (helper.of_many(41), ("child", "x", 0), helper.nested("not", range(2000), TOP))
        for module, name, more in CALLS:
            function = getattr(module, name)
            for thing in wrong:
                with self.assertRaises(BadSaying):
                    function(thing, *more.values())
                with self.assertRaises(BadSaying):
                    function(**more, saying=thing)


if __name__ == "__main__":
    unittest.main()
