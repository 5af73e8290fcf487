"""Points 21 to 23 and 35: shapes, how they are kept in balance, and reach."""

import random
import sys
import unittest
from functools import lru_cache

import helper
from everymatch.documents import children
from everymatch.errors import BadBalance, BadCount, BadDocument, BadShape
from everymatch.shapes import (cut_shape, even_shape, height_of, is_balanced, is_shape, joined_shapes, put_shape,
                               reach, taken_shape, tallest, width_of)

PAIR = (None, None)
# The fewest children of balanced shapes of the heights from 0 on.
FEWEST = [1, 2, 3, 5, 8, 13, 21, 34, 55, 89, 144, 233, 377, 610, 987, 1597, 2584, 4181, 6765, 10946, 17711, 28657]


def spine(height, left=True):
    """A shape of this height each pair of which has one child on one side."""
    shape = None
    for _ in range(height):
        shape = (shape, None) if left else (None, shape)
    return shape


def full(height):
    """The shape of this height that has most children, the same object on both sides."""
    shape = None
    for _ in range(height):
        shape = (shape, shape)
    return shape


@lru_cache(maxsize=None)
def leanest(height, left=True):
    """The balanced shape of this height that has fewest children."""
    if height < 2:
        return None if height == 0 else PAIR
    sides = (leanest(height - 1, left), leanest(height - 2, left))
    return sides if left else sides[::-1]


def measure(shape):
    """(width, height, whether it is balanced), told plainly."""
    if shape is None:
        return 1, 0, True
    first, second = measure(shape[0]), measure(shape[1])
    return (first[0] + second[0], 1 + max(first[1], second[1]),
            first[2] and second[2] and abs(first[1] - second[1]) <= 1)


@lru_cache(maxsize=None)
def all_shapes(width):
    """All shapes of so many children."""
    if width == 1:
        return [None]
    return [(first, second) for left in range(1, width) for first in all_shapes(left)
            for second in all_shapes(width - left)]


def balanced_by_chance(rng, height):
    """A balanced shape of this height, by chance."""
    if height == 0:
        return None
    heights = [height - 1, max(0, height - rng.choice((1, 1, 2)))]
    rng.shuffle(heights)
    return tuple(balanced_by_chance(rng, one) for one in heights)


NOT_SHAPES = helper.ANY_OBJECTS + (
    0, 1, -1, "", "ab", (), (None,), (None, None, None), (None, ()), ((), None), ((), ()), (None, (None,)),
    ((None, None, None), None), [None, None], ([None, None], None), (None, [None, None]), (0, None), (None, 0),
    (None, True), (False, None), (None, "a"), (None, "ab"), (b"ab", None), (None, {}), (helper.Same(), None),
    (PAIR, (None, (None, (None, 0)))), (((((), None), None), None), None), (PAIR, (PAIR, (PAIR, (None, [])))),
    (None, (PAIR, (None, None, None))), ((None, PAIR), ((None, None), (None, ()))))


class ShapesTest(unittest.TestCase):
    def test_is_shape(self):
        for width in range(1, 8):
            for shape in all_shapes(width):
                self.assertIs(is_shape(shape), True)
        for thing in NOT_SHAPES:
            self.assertIs(is_shape(thing), False, thing)
        self.assertIs(is_shape(thing=None), True)

    def test_each_entry_made_worse(self):
        shape = ((None, PAIR), (PAIR, (None, PAIR)))
        for worse in ((), (None,), [None, None], 0, True, "", (None, None, None), [], "ab"):
            for other in helper.changed_entries(shape, lambda entry: [worse]):
                self.assertIs(is_shape(other), False, other)

    def test_greatest_width(self):
        wide = even_shape(20000)
        for shape in (wide, ((even_shape(12000), PAIR), even_shape(7998)), (full(14), even_shape(20000 - 2 ** 14))):
            self.assertIs(is_shape(shape), True)
            self.assertEqual(width_of(shape), 20000)
        for shape in ((wide, None), (None, wide), (wide, wide), (even_shape(20000), even_shape(1)), full(15), full(40),
                      (full(14), even_shape(20001 - 2 ** 14)), (even_shape(10000), even_shape(10001))):
            self.assertIs(is_shape(shape), False)
            self.check_refused(shape, BadShape)

    def test_greatest_height(self):
        for left in (True, False):
            self.assertIs(is_shape(spine(40, left)), True)
            self.assertEqual(height_of(spine(40, left)), 40)
            self.assertEqual(width_of(spine(40, left)), 41)
            self.assertIs(is_shape(spine(41, left)), False)
            self.assertIs(is_shape((PAIR, spine(39, left))), True)
            self.assertIs(is_shape((PAIR, spine(40, left))), False)
            self.check_refused(spine(41, left), BadShape)

    def test_far_deeper(self):
        for height in (42, 50, 1000, 100000):
            for shape in (spine(height), spine(height, False), full(height), (None, full(height)), (full(height), 0)):
                self.assertIs(is_shape(shape), False)
                if height < 1000:
                    self.check_refused(shape, BadShape)

    def test_one_object_many_times(self):
        for height in range(15):
            self.assertEqual(width_of(full(height)), 2 ** height)
            self.assertEqual(height_of(full(height)), height)
            self.assertIs(is_balanced(full(height)), True)
        self.assertEqual(width_of((full(13), (full(12), full(5)))), 8192 + 4096 + 32)

    def test_measures(self):
        for width in range(1, 9):
            for shape in all_shapes(width):
                told = (width_of(shape), height_of(shape), is_balanced(shape))
                self.assertEqual(told, measure(shape))
                self.assertEqual([type(one) for one in told], [int, int, bool])
        rng = random.Random(61)
        for _ in range(60):
            first, second = (balanced_by_chance(rng, rng.randrange(9)) for _ in range(2))
            for shape in (first, second, (first, second), ((first, None), second)):
                self.assertEqual((width_of(shape), height_of(shape), is_balanced(shape)), measure(shape))
        self.assertEqual([is_balanced(spine(height)) for height in range(5)], [True, True, True, False, False])
        self.assertIs(is_balanced(((PAIR, None), (None, ((None, None), None)))), False)

    def test_tallest(self):
        for height, fewest in enumerate(FEWEST[:-1]):
            self.assertEqual(measure(leanest(height))[:2], (fewest, height))
            self.assertIs(is_balanced(leanest(height)), True)
            self.assertEqual(tallest(fewest), height)
            self.assertEqual(tallest(fewest + 1), height + (height < 2))
            if height > 0:
                self.assertEqual(tallest(fewest - 1), height - 1)
        self.assertEqual((tallest(0), tallest(1), tallest(width=20000)), (0, 0, 20))
        for width in range(1, 14):
            self.assertEqual(tallest(width), max(measure(shape)[1] for shape in all_shapes(min(width, 9))
                                                 if measure(shape)[2]) if width < 10 else 4 + (width == 13))

    def test_even_shape(self):
        for width in [*range(1, 201), 19999, 20000]:
            shape = even_shape(width)
            self.assertEqual(width_of(shape), width)
            self.assertIs(is_balanced(shape), True)
            self.assertEqual(height_of(shape), (width - 1).bit_length())
            if width > 1:
                self.assertEqual(shape, (even_shape((width + 1) // 2), even_shape(width // 2)))
        self.assertEqual([even_shape(width=many) for many in (1, 2, 3, 5)],
                         [None, PAIR, (PAIR, None), ((PAIR, None), PAIR)])

    def test_bad_counts(self):
        for thing in helper.ANY_OBJECTS + (None, "", "5", (5,), -1, 20001, 10 ** 30, -10 ** 30):
            for call in (lambda: tallest(thing), lambda: even_shape(thing), lambda: tallest(width=thing),
                         lambda: even_shape(width=thing)):
                with self.assertRaises(BadCount):
                    call()
        with self.assertRaises(BadCount):
            even_shape(0)

    def check_refused(self, shape, error):
        """Check that the error is raised for the shape wherever one is taken, ahead of what stands behind it."""
        for call in (lambda: joined_shapes(shape, None), lambda: joined_shapes(None, shape),
                     lambda: joined_shapes(shape, 0), lambda: cut_shape(shape, 0), lambda: cut_shape(shape, None),
                     lambda: put_shape(shape, 0), lambda: put_shape(shape, -1), lambda: taken_shape(shape, 0),
                     lambda: taken_shape(shape, True), lambda: joined_shapes(other=shape, shape=PAIR)):
            with self.assertRaises(error):
                call()
        if error == BadShape:
            for call in (is_balanced, width_of, height_of):
                with self.assertRaises(error):
                    call(shape)
                with self.assertRaises(error):
                    call(shape=shape)

    def test_bad_shapes(self):
        for thing in NOT_SHAPES:
            if thing != () or type(thing) is not tuple:
                self.check_refused(thing, BadShape)
        for call in (lambda: joined_shapes((), None), lambda: joined_shapes(None, ()), lambda: cut_shape((), 0),
                     lambda: taken_shape((), 0), lambda: width_of(()), lambda: height_of(()), lambda: is_balanced(())):
            with self.assertRaises(BadShape):
                call()

    def test_bad_balance(self):
        for shape in (spine(3), spine(40, False), (PAIR, spine(4)), (even_shape(9), PAIR), (None, full(2))):
            self.assertIs(is_balanced(shape), False)
            self.check_refused(shape, BadBalance)
        with self.assertRaises(BadBalance):
            joined_shapes(spine(3), ())
        with self.assertRaises(BadShape):
            joined_shapes((), spine(3))


class BalanceTest(unittest.TestCase):
    def check(self, shape, width):
        """Check that it is a balanced shape of so many children, () for none."""
        if width == 0:
            self.assertEqual((shape, type(shape)), ((), tuple))
        else:
            self.assertIs(is_shape(shape), True)
            self.assertEqual(measure(shape)[::2], (width, True))

    def test_joined(self):
        shapes = [leanest(height, left) for height in range(12) for left in (True, False)]
        shapes += [full(height) for height in range(9)] + [even_shape(width) for width in (6, 7, 9, 100, 1000)]
        for first in shapes:
            for second in shapes:
                self.check(joined_shapes(first, second), measure(first)[0] + measure(second)[0])
        rng = random.Random(62)
        for _ in range(300):
            first, second = (balanced_by_chance(rng, rng.randrange(10)) for _ in range(2))
            self.check(joined_shapes(other=second, shape=first), measure(first)[0] + measure(second)[0])

    def test_joined_to_twenty_thousand(self):
        for width in (1, 2, 7, 5000, 10000, 19999):
            self.check(joined_shapes(even_shape(width), even_shape(20000 - width)), 20000)
            self.check(joined_shapes(even_shape(20000 - width), even_shape(width)), 20000)
            with self.assertRaises(BadBalance):
                joined_shapes(even_shape(width), even_shape(20001 - width))
        for height in range(19):
            self.check(joined_shapes(leanest(19), leanest(height)), FEWEST[19] + FEWEST[height])
            self.check(joined_shapes(leanest(height, False), leanest(19, False)), FEWEST[19] + FEWEST[height])
        self.check(joined_shapes(leanest(20), None), FEWEST[20] + 1)

    def test_cut(self):
        rng = random.Random(63)
        shapes = [leanest(height, left) for height in range(9) for left in (True, False)]
        shapes += [full(height) for height in range(7)] + [even_shape(width) for width in range(1, 40)]
        shapes += [balanced_by_chance(rng, rng.randrange(7)) for _ in range(60)]
        for shape in shapes:
            width = measure(shape)[0]
            for many in range(width + 1):
                told = cut_shape(shape, many)
                self.assertEqual((type(told), len(told)), (tuple, 2))
                self.check(told[0], many)
                self.check(told[1], width - many)
            for many in (-1, width + 1, True, None, "0", [], (0,), 10 ** 30):
                with self.assertRaises(BadCount):
                    cut_shape(shape, many)
        self.assertEqual(cut_shape(many=0, shape=None), ((), None))
        self.check(cut_shape(even_shape(20000), 12345)[0], 12345)
        self.check(cut_shape(leanest(20), 12345)[1], FEWEST[20] - 12345)

    def test_put(self):
        for shape in self.some_shapes():
            width = measure(shape)[0]
            for place in range(width + 1):
                self.check(put_shape(shape, place), width + 1)
            for place in (-1, width + 1, False, None, "0", [], (0,), 10 ** 30):
                with self.assertRaises(BadCount):
                    put_shape(shape, place)
        self.assertIsNone(put_shape((), 0))
        self.assertIsNone(put_shape(place=0, shape=()))
        for place in (1, -1, False, None, "", ()):
            with self.assertRaises(BadCount):
                put_shape((), place)

    def some_shapes(self):
        """Balanced shapes of many kinds."""
        rng = random.Random(64)
        found = [leanest(height, left) for height in range(10) for left in (True, False)]
        found += [full(height) for height in range(7)] + [even_shape(width) for width in range(1, 30)]
        return found + [balanced_by_chance(rng, rng.randrange(8)) for _ in range(60)]

    def test_put_into_twenty_thousand(self):
        for place in (0, 1, 10000, 19999):
            self.check(put_shape(even_shape(19999), place), 20000)
        for place in (0, 10000, 20000, 20001, -1, None):
            with self.assertRaises(BadBalance):
                put_shape(even_shape(20000), place)

    def test_taken(self):
        for shape in self.some_shapes():
            width = measure(shape)[0]
            for place in range(width):
                self.check(taken_shape(shape, place), width - 1)
            for place in (-1, width, True, None, "0", [], (0,), 10 ** 30):
                if place is not True or width < 2:
                    with self.assertRaises(BadCount):
                        taken_shape(shape, place)
        self.assertEqual(taken_shape(place=0, shape=None), ())
        with self.assertRaises(BadCount):
            taken_shape(PAIR, True)
        self.check(taken_shape(even_shape(20000), 0), 19999)

    def test_many_in_a_row(self):
        rng = random.Random(65)
        shape, width = (), 0
        for turn in range(3000):
            if width and rng.random() < (0.3 if turn < 1500 else 0.7):
                shape, width = taken_shape(shape, rng.choice((0, width - 1, rng.randrange(width)))), width - 1
            else:
                shape, width = put_shape(shape, rng.choice((0, width, rng.randrange(width + 1)))), width + 1
            self.check(shape, width)
            if width:
                self.assertLessEqual(height_of(shape), tallest(width))

    def test_equal_calls(self):
        shape = leanest(6)
        for call in (lambda: joined_shapes(shape, PAIR), lambda: cut_shape(shape, 5), lambda: put_shape(shape, 5),
                     lambda: taken_shape(shape, 5)):
            self.assertEqual(call(), call())
            self.assertEqual(shape, leanest(6))


def reach_plainly(document):
    """reach, told from each node's row of parents."""
    def height(many):
        return max(height for height, fewest in enumerate([0, *FEWEST[1:]]) if fewest <= many)

    above = 1 + height(len(children(document, None)))
    sums = [above]
    path = []
    for node, (_, depth) in enumerate(document):
        path = path[:depth] + [1 + height(len(children(document, node)))]
        sums.append(above + sum(path))
    return max(sums)


class ReachTest(unittest.TestCase):
    def test_small(self):
        self.assertEqual(reach(()), 1)
        for document in helper.lettered(7):
            self.assertEqual(reach(document), reach_plainly(document))

    def test_rows(self):
        for height, fewest in enumerate(FEWEST[:-1]):
            for many in (fewest - 1, fewest, fewest + 1):
                if many > 0:
                    told = height if many >= fewest else height - 1
                    told += fewest < 3 and many > fewest and height < 2
                    self.assertEqual(reach(helper.row(many)), 2 + told)
        self.assertEqual(reach(helper.row(20000)), 22)

    def test_chains(self):
        for many in (1, 2, 10, 5000, 20000):
            self.assertEqual(reach(helper.chain(many)), many + 1)
        self.assertEqual(reach(helper.comb(20000)), 1 + 2 * 9999 + 1 + 1)

    def test_rows_within_rows(self):
        for first in FEWEST[1:8]:
            for second in (1, 2, 3, 7, 8, 20, 21):
                document = tuple(("a", depth) for _ in range(first) for depth in [0] + [1] * second)
                self.assertEqual(reach(document), reach_plainly(document))
                self.assertEqual(reach(document=document), 3 + tallest(first) + tallest(second))
        # A row far from the top counts with all that is above it, a wide one beside it does not.
        document = helper.chain(50) + tuple(("b", 50) for _ in range(13)) + helper.row(1000)
        self.assertEqual(reach(document), 1 + tallest(1001) + 49 + 1 + 5 + 1)

    def test_bad_documents(self):
        for thing in helper.NOT_DOCUMENTS:
            with self.assertRaises(BadDocument):
                reach(thing)


class DepthTest(unittest.TestCase):
    def test_few_calls_deep(self):
        """No function calls itself as deep as its argument is great."""
        calls = [lambda: reach(helper.chain(20000)), lambda: is_shape(spine(100000)), lambda: even_shape(20000),
                 lambda: joined_shapes(leanest(19), None), lambda: is_shape(full(1000))]
        limit = sys.getrecursionlimit()
        sys.setrecursionlimit(300)
        try:
            for call in calls:
                call()
        finally:
            sys.setrecursionlimit(limit)


if __name__ == "__main__":
    unittest.main()
