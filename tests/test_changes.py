"""Points 28 and 37: what an edit adds and takes away."""

import random
import unittest

import helper
from everymatch.changes import Change
from everymatch.edits import edited, kept_pairs, laid_over
from everymatch.errors import BadDocument, BadNodes, BadNumber, BadPairs, BadSaying, TooMany
from everymatch.meaning import matches
from everymatch.sayings import read_saying
from everymatch.shapes import reach

TEXTS = ("some p (p in a and some q p over q)", "all p (p top or p in b)", "x in a", "not some y x over y",
         "(x over y and y in b)", "(x ahead y or y above x)", "(x above z and (y above z and not x is y))", "x over x",
         "(x top and all p p in abc)", "(x in a and not some p p in d)")


def laid_reach(laid):
    """The reach of two documents laid over one another, each row a part."""
    depths = []
    for _, _, above in laid:
        depths.append(0 if above is None else depths[above] + 1)
    return reach(tuple(("a", depth) for depth in depths))


class ChangeTest(unittest.TestCase):
    def check(self, elder, newer, pairs, saying, rng):
        """Check all that a change tells, and how many parts it looks at."""
        added, taken = helper.changed_plainly(elder, newer, pairs, saying)
        laid = laid_over(elder, newer, pairs)
        most = helper.ceiling(saying, laid_reach(laid))
        change = Change(elder, newer, pairs, saying)
        self.asked(change, len(laid), 6 * len(laid) + 6)
        self.assertEqual((change.added_count(), change.taken_count()), (len(added), len(taken)))
        self.asked(change, 2, 2 * most)
        names = len(helper.free_plainly(saying))
        for told, match, number, other in ((added, change.added, change.added_number, newer),
                                           (taken, change.taken, change.taken_number, elder)):
            for at in {0, len(told) - 1, *rng.sample(range(len(told)), min(4, len(told)))} if told else ():
                self.assertEqual(match(at), told[at])
                self.asked(change, 1, most)
            for wrong in (len(told), -1, 10 ** 30):
                with self.assertRaises(BadNumber):
                    match(wrong)
                self.asked(change, 0, most)
            tuples = [tuple(rng.randrange(len(other) + 2) for _ in range(names)) for _ in range(4)]
            for nodes in tuples + told[:2] + told[-1:] + [(10 ** 30,) * names, (0,) * names]:
                self.assertEqual(number(nodes), len([one for one in told if one < nodes]))
                self.asked(change, 0, most)

    def asked(self, change, least, most):
        """Check that so many parts were looked at since it was asked last, and none behind that."""
        looks = change.looks()
        self.assertLessEqual(least, looks)
        self.assertLessEqual(looks, most)
        self.assertEqual(change.looks(), 0)

    def test_pairs_of_edits(self):
        rng = random.Random(101)
        for turn in range(250):
            saying = helper.saying_by_chance(rng) if turn % 2 else read_saying(rng.choice(TEXTS))
            elder = helper.document_by_chance(rng, rng.randrange(10))
            edit = helper.edit_by_chance(rng, elder)
            self.check(elder, edited(elder, edit), kept_pairs(elder, edit), saying, rng)

    def test_none_paired(self):
        rng = random.Random(102)
        for turn in range(120):
            saying = helper.saying_by_chance(rng) if turn % 2 else read_saying(rng.choice(TEXTS))
            elder, newer = (helper.document_by_chance(rng, rng.randrange(9)) for _ in range(2))
            self.check(elder, newer, (None,) * len(elder), saying, rng)
            self.check(elder, elder, (None,) * len(elder), saying, rng)

    def test_all_paired(self):
        rng = random.Random(103)
        for text in TEXTS:
            saying = read_saying(text)
            document = helper.document_by_chance(rng, 9)
            self.check(document, document, tuple(range(9)), saying, rng)
            change = Change(document, document, tuple(range(9)), saying)
            self.assertEqual((change.added_count(), change.taken_count()), (0, 0))
            marked = tuple((rng.choice("abcd"), depth) for _, depth in document)
            self.check(document, marked, tuple(range(9)), saying, rng)

    def test_some_paired(self):
        rng = random.Random(104)
        for _ in range(150):
            saying = helper.saying_by_chance(rng)
            elder = helper.document_by_chance(rng, rng.randrange(9))
            newer = elder
            pairs = tuple(range(len(elder)))
            for _ in range(rng.randrange(4)):
                edit = helper.edit_by_chance(rng, newer)
                turn = kept_pairs(newer, edit)
                pairs = tuple(None if node is None else turn[node] for node in pairs)
                newer = edited(newer, edit)
            if len(newer) < 12:
                self.check(elder, newer, pairs, saying, rng)

    def test_without_nodes(self):
        rng = random.Random(105)
        document = (("a", 0), ("b", 1), ("b", 1))
        for text in TEXTS:
            for elder, newer in ((), document), (document, ()), ((), ()):
                self.check(elder, newer, (None,) * len(elder), read_saying(text), rng)

    def test_without_free_names(self):
        none, one = (("b", 0),), (("a", 0),)
        saying = read_saying("some p p in a")
        for elder, newer, counts in ((none, one, (1, 0)), (one, none, (0, 1)), (one, one, (0, 0)), (none, none, (0, 0))):
            for pairs in ((None,), (0,)):
                change = Change(elder, newer, pairs, saying)
                self.assertEqual((change.added_count(), change.taken_count()), counts)
                self.assertEqual((change.added_number(()), change.taken_number(())), (0, 0))
                if counts[0]:
                    self.assertEqual(change.added(0), ())
                if counts[1]:
                    self.assertEqual(change.taken(number=0), ())

    def test_great_documents(self):
        rng = random.Random(106)
        for document in (helper.row(300), helper.chain(200), helper.document_by_chance(rng, 400)):
            for text in ("x over y", "(x ahead y and x in a)", "x above y"):
                saying = read_saying(text)
                for _ in range(4):
                    edit = helper.edit_by_chance(rng, document)
                    newer = edited(document, edit)
                    pairs = kept_pairs(document, edit)
                    laid = laid_over(document, newer, pairs)
                    change = Change(document, newer, pairs, saying)
                    self.asked(change, len(laid), 6 * len(laid) + 6)
                    most = helper.ceiling(saying, laid_reach(laid))
                    # What is added and what is taken differ by as much as the counts do.
                    counts = [self.count(text, one) for one in (document, newer)]
                    self.assertEqual(change.added_count() - change.taken_count(), counts[1] - counts[0])
                    self.asked(change, 2, 2 * most)
                    for match, number, count in ((change.added, change.added_number, change.added_count()),
                                                 (change.taken, change.taken_number, change.taken_count())):
                        change.looks()
                        for at in {0, count - 1, rng.randrange(count)} if count else ():
                            nodes = match(at)
                            self.asked(change, 1, most)
                            self.assertEqual(number(nodes), at)
                            self.asked(change, 0, most)

    def count(self, text, document):
        """The count of a saying's matches, told from rows and depths."""
        if text == "x over y":
            return sum(depth > 0 for _, depth in document)
        if text == "x above y":
            return sum(depth for _, depth in document)
        total = 0
        rows = [[]]
        for mark, depth in document:
            rows = rows[:depth + 1]
            total += rows[depth].count("a")
            rows[depth].append(mark)
            rows.append([])
        return total

    def test_wrong_things(self):
        elder, newer = (("a", 0), ("b", 1)), (("a", 0), ("b", 1), ("b", 1))
        change = Change(elder, newer, (0, 1), read_saying("x over y"))
        self.assertEqual((change.added_count(), change.added(0), change.taken_count()), (1, (0, 2), 0))
        for thing in helper.ANY_OBJECTS + (None, "", "0", (), (0,), -1, 1, 10 ** 30):
            for call in (lambda: change.added(thing), lambda: change.taken(thing), lambda: change.added(number=thing)):
                with self.assertRaises(BadNumber):
                    call()
        with self.assertRaises(BadNumber):
            change.taken(0)
        for thing in helper.ANY_OBJECTS + (None, 0, "", "01", (), (0,), (0, 1, 2), [0, 1], (0, True), (-1, 0), (None, 0)):
            for call in (lambda: change.added_number(thing), lambda: change.taken_number(thing),
                         lambda: change.added_number(nodes=thing), lambda: change.taken_number(nodes=thing)):
                with self.assertRaises(BadNodes):
                    call()
        self.assertEqual((change.added_count(), change.added(0)), (1, (0, 2)))

    def test_bad_making(self):
        document = (("a", 0), ("b", 1))
        saying = read_saying("x top")
        great = read_saying(helper.eight_marks("and"))
        for thing in helper.NOT_DOCUMENTS:
            for call in (lambda: Change(thing, None, None, None), lambda: Change(document, thing, None, None),
                         lambda: Change(saying=saying, pairs=(), newer=document, elder=thing),
                         lambda: Change(document, thing, (None, None), great)):
                with self.assertRaises(BadDocument):
                    call()
        for thing in helper.ANY_OBJECTS + (None, 0, (), (0,), (0, 2), (0, 0), (1, None), (None, 1), [0, 1], (0, 1, None)):
            for other in (saying, None, great):
                with self.assertRaises(BadPairs):
                    Change(document, document, thing, other)
        for thing in helper.NOT_SAYINGS:
            with self.assertRaises(BadSaying):
                Change(document, document, (0, 1), thing)
        with self.assertRaises(TooMany):
            Change(document, document, (0, 1), great)

    def test_told_example(self):
        # The piece that is moved is not paired: its old matches are taken, its new ones are added.
        elder = (("a", 0), ("b", 1), ("c", 0))
        edit = ("move", 1, (1, 0))
        newer = edited(elder, edit)
        change = Change(newer=newer, elder=elder, saying=read_saying("x over y"), pairs=kept_pairs(elder, edit))
        self.assertEqual(matches(read_saying("x over y"), newer), ((1, 2),))
        self.assertEqual((change.added_count(), change.added(0), change.taken_count(), change.taken(0)),
                         (1, (1, 2), 1, (0, 1)))
        self.assertEqual((change.added_number((1, 2)), change.added_number((1, 3)), change.taken_number((0, 2))), (0, 1, 1))


if __name__ == "__main__":
    unittest.main()
