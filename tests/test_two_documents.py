"""Point 10: what leads from one document to another, and two documents laid over one another."""

import random
import unittest
from itertools import combinations

import helper
from everymatch.documents import parents, read_document
from everymatch.edits import edited, edited_all, edits_between, is_edit, laid_over
from everymatch.errors import BadDocument, BadPairs

# a(b c(d)) e
SMALL = (("a", 0), ("b", 1), ("c", 1), ("d", 2), ("e", 0))


def random_document(chance, many):
    document = []
    for node in range(many):
        deepest = document[-1][1] + 1 if node else 0
        document.append((chance.choice("abc"), chance.randint(0, deepest)))
    return tuple(document)


class EditsBetweenTest(unittest.TestCase):
    def check(self, document, other):
        found = edits_between(document, other)
        self.assertIsInstance(found, tuple)
        self.assertLessEqual(len(found), 2 * (len(document) + len(other)))
        self.assertEqual(found == (), document == other)
        now = document
        for edit in found:
            self.assertIs(is_edit(edit), True)
            now = edited(now, edit)
        self.assertEqual(now, other)
        return found

    def check_great(self, document, other):
        found = edits_between(document, other)
        self.assertLessEqual(len(found), 2 * (len(document) + len(other)))
        now = document
        for start in range(0, len(found), 1000):
            now = edited_all(now, found[start:start + 1000])
        self.assertEqual(now, other)
        return found

    def test_small_documents(self):
        some = helper.all_documents(3, "ab") + helper.lettered(4)
        for document in some:
            for other in some:
                self.check(document, other)

    def test_random_documents(self):
        chance = random.Random(10)
        for _ in range(300):
            document = random_document(chance, chance.randint(0, 40))
            other = random_document(chance, chance.randint(0, 40))
            self.check(document, other)
            changed = edited_all(document, edits_between(document, other)[:3])
            self.check(document, changed)
            self.check(changed, document)

    def test_without_nodes_and_nothing_in_common(self):
        self.assertEqual(edits_between((), ()), ())
        self.assertEqual(edits_between(other=SMALL, document=SMALL), ())
        self.check((), SMALL)
        self.check(SMALL, ())
        self.check(helper.row(30, "a"), helper.chain(30, "b"))
        self.check(helper.chain(30, "a"), helper.comb(31, "b"))

    def test_one_edit_is_told_by_one(self):
        text = "a(b c(d e) f) g(h(a b)) c"
        document = read_document(text)
        for other in ("a(b c(h e) f) g(h(a b)) c", "a(b c(d e) f) g(h(a b c(d))) c", "a(b f) g(h(a b)) c",
                      "a(b c(d e) f) g(h(a b))", "g(h(a b)) c", "e(f) a(b c(d e) f) g(h(a b)) c"):
            self.assertEqual(len(self.check(document, read_document(other))), 1, other)

    def test_great_documents(self):
        for document in helper.GREAT:
            for other in helper.GREAT:
                self.check_great(document, other)
        self.check_great((), helper.GREAT[0])
        self.check_great(helper.GREAT[2], ())
        self.check_great(helper.row(20000, "a"), helper.row(20000, "b"))
        self.check_great(helper.row(19999, "a") + (("b", 0),), (("b", 0),) + helper.row(19999, "a"))
        chance = random.Random(11)
        self.check_great(random_document(chance, 5000), random_document(chance, 5000))

    def test_bad_documents(self):
        for thing in helper.NOT_DOCUMENTS:
            with self.assertRaises(BadDocument):
                edits_between(thing, None)
            with self.assertRaises(BadDocument):
                edits_between(thing, SMALL)
            with self.assertRaises(BadDocument):
                edits_between(SMALL, thing)
            with self.assertRaises(BadDocument):
                edits_between(other=thing, document=SMALL)


def are_pairs(document, other, pairs):
    """Whether these are pairs, told in the words of the document."""
    below = dict((node, twin) for node, twin in enumerate(pairs) if twin is not None)
    if list(below.values()) != sorted(set(below.values())):
        return False
    above, other_above = parents(document), parents(other)
    for node, twin in below.items():
        if above[node] is None or other_above[twin] is None:
            if above[node] is not None or other_above[twin] is not None:
                return False
        elif below.get(above[node]) != other_above[twin]:
            return False
    return True


def laid_slowly(document, other, pairs):
    """The rows of both documents, by the second way: row by row, stretch by stretch."""
    rows = []

    def add(tree, other_tree, above):
        rows.append((tree and tree[0], other_tree and other_tree[0], above))
        lay(tree[2] if tree else [], other_tree[2] if other_tree else [], len(rows) - 1)

    def lay(trees, other_trees, above):
        paired = [tree for tree in trees if pairs[tree[0]] is not None]
        for first, second in zip([None] + paired, paired + [None]):
            lone, other_lone = between(trees, first, second), other_trees
            if first or second:
                twins = [find(other_trees, pairs[tree[0]]) if tree else None for tree in (first, second)]
                other_lone = between(other_trees, *twins)
            if first:
                add(first, twins[0], above)
            for tree in lone:
                add(tree, None, above)
            for tree in other_lone:
                add(None, tree, above)

    lay(helper.to_trees(document), helper.to_trees(other), None)
    return tuple(rows)


def find(trees, name):
    return [tree for tree in trees if tree[0] == name][0]


def between(trees, first, second):
    """The trees behind the first one, or from the beginning, and ahead of the second one, or to the end."""
    start = trees.index(first) + 1 if first else 0
    return trees[start:trees.index(second) if second else None]


class LaidOverTest(unittest.TestCase):
    def test_examples(self):
        document = read_document("a b c")
        other = read_document("d e f g")
        self.assertEqual(laid_over(document, other, (None, 1, None)),
                         ((0, None, None), (None, 0, None), (1, 1, None), (2, None, None), (None, 2, None),
                          (None, 3, None)))
        self.assertEqual(laid_over(document, other, (None,) * 3),
                         ((0, None, None), (1, None, None), (2, None, None), (None, 0, None), (None, 1, None),
                          (None, 2, None), (None, 3, None)))
        self.assertEqual(laid_over(document, other, (0, None, 3)),
                         ((0, 0, None), (1, None, None), (None, 1, None), (None, 2, None), (2, 3, None)))
        document = read_document("a(b(c) d)")
        other = read_document("a(e(f) d(g))")
        self.assertEqual(laid_over(document, other, (0, None, None, 3)),
                         ((0, 0, None), (1, None, 0), (2, None, 1), (None, 1, 0), (None, 2, 3), (3, 3, 0),
                          (None, 4, 5)))
        self.assertEqual(laid_over((), (), ()), ())
        self.assertEqual(laid_over(pairs=(), other=SMALL, document=()),
                         tuple((None, node, above) for node, above in enumerate(parents(SMALL))))
        self.assertEqual(laid_over(SMALL, (), (None,) * 5),
                         tuple((node, None, above) for node, above in enumerate(parents(SMALL))))
        self.assertEqual(laid_over(SMALL, SMALL, tuple(range(5))),
                         tuple((node, node, above) for node, above in enumerate(parents(SMALL))))

    def test_all_pairs_of_small_documents(self):
        some = helper.lettered(4)
        for document in some:
            for other in some:
                for pairs in rising(len(document), len(other)):
                    if are_pairs(document, other, pairs):
                        self.check(document, other, pairs)
                    else:
                        with self.assertRaises(BadPairs):
                            laid_over(document, other, pairs)

    def check(self, document, other, pairs):
        laid = laid_over(document, other, pairs)
        self.assertEqual(laid, laid_slowly(document, other, pairs), (document, other, pairs))
        self.assertEqual([node for node, _, _ in laid if node is not None], list(range(len(document))))
        self.assertEqual([twin for _, twin, _ in laid if twin is not None], list(range(len(other))))

    def test_what_are_no_pairs(self):
        right = (0, 1, 2, 3, 4)
        self.assertEqual(len(laid_over(SMALL, SMALL, right)), 5)
        wrong = [None, 0, "", "01234", (), (0,), right[:4], right + (None,), right + (5,), list(right),
                 (right,), (0, 2, 1, 3, 4), (0, 1, 1, 3, 4), (0, 1, 2, 3, 5), (0, 1, 2, 3, 10 ** 30), (-1, 1, 2, 3, 4),
                 (None, 1, 2, 3, 4), (0, 1, None, 3, 4), (0, 1, 2, 4, None), (4, None, None, None, 0),
                 (None, None, None, None, 1), (None, 0, None, None, None), (None, None, None, 3, None),
                 (0, None, 1, 3, None), (4, None, None, None, 4), (0, 1, 2, 3, False), (False, 1, 2, 3, 4),
                 (0, True, 2, 3, 4), (0, "1", 2, 3, 4), (0, (1,), 2, 3, 4), (0, [1], 2, 3, 4),
                 (0, helper.Same(), 2, 3, 4), (0, b"", 2, 3, 4), ((0, 0), (1, 1), (2, 2), (3, 3), (4, 4))]
        for pairs in wrong + list(helper.ANY_OBJECTS):
            with self.assertRaises(BadPairs, msg=pairs):
                laid_over(SMALL, SMALL, pairs)
        for pairs in (None, [], (None,), (0,)):
            with self.assertRaises(BadPairs):
                laid_over((), SMALL, pairs)
        with self.assertRaises(BadPairs):
            laid_over((("a", 0),), (), (0,))

    def test_no_argument_is_changed(self):
        pairs = [0, None, [2]]
        document = [("a", 0), ["b", 0]]
        for arguments in ((SMALL, SMALL, pairs), (document, SMALL, pairs), (SMALL, document, pairs)):
            with self.assertRaises(ValueError):
                laid_over(*arguments)
        self.assertEqual((pairs, document), ([0, None, [2]], [("a", 0), ["b", 0]]))

    def test_the_order_of_errors(self):
        for thing in helper.NOT_DOCUMENTS:
            with self.assertRaises(BadDocument):
                laid_over(thing, None, None)
            with self.assertRaises(BadDocument):
                laid_over(thing, SMALL, (None,) * 5)
            with self.assertRaises(BadDocument):
                laid_over(SMALL, thing, None)
            with self.assertRaises(BadDocument):
                laid_over(pairs=None, other=thing, document=SMALL)

    def test_great_documents(self):
        for document in helper.GREAT:
            above = parents(document)
            both = laid_over(document, document, tuple(range(20000)))
            self.assertEqual(both, tuple((node, node, above[node]) for node in range(20000)))
            for other in helper.GREAT:
                apart = laid_over(document, other, (None,) * 20000)
                self.assertEqual(apart[:20000], tuple((node, None, above[node]) for node in range(20000)))
                behind = tuple((None, node, None if up is None else up + 20000)
                               for node, up in enumerate(parents(other)))
                self.assertEqual(apart[20000:], behind)
        odd = tuple(node if node & 1 else None for node in range(20000))
        laid = laid_over(helper.row(20000), helper.row(20000), odd)
        self.assertEqual(laid[:4], ((0, None, None), (None, 0, None), (1, 1, None), (2, None, None)))
        self.assertEqual(len(laid), 30000)


def rising(many, other_many):
    """All tuples of so many entries of None or numbers below other_many that ascend strictly."""
    found = []
    for count in range(min(many, other_many) + 1):
        for nodes in combinations(range(many), count):
            for twins in combinations(range(other_many), count):
                pairs = dict(zip(nodes, twins))
                found.append(tuple(pairs.get(node) for node in range(many)))
    return found


if __name__ == "__main__":
    unittest.main()
