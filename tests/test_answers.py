"""Points 3, 25, 26, 31 and 34: kept documents."""

import random
import unittest

import helper
from everymatch.answers import Kept
from everymatch.documents import is_document
from everymatch.errors import BadCount, BadDocument, BadNodes, BadNumber, BadSaying, TooMany
from everymatch.meaning import matches
from everymatch.sayings import free_names, read_saying
from everymatch.shapes import reach

# Of none to three free names.
TEXTS = ("some p (p in a and some q p over q)", "all p (p top or p in b)", "x in a", "not x top", "(x over y and y in b)",
         "x ahead y", "(x above y or y then x)", "(x is y and x in ab)", "(x above z and (y above z and not x is y))",
         "(x over y and (x over z and y ahead z))", "(x is x and (y is y and z in c))", "x over x")

NOT_NUMBERS = helper.ANY_OBJECTS + (None, "", "0", (), (0,), -1, -10 ** 30)


class KeptTest(unittest.TestCase):
    def check(self, kept, document, saying, rng):
        """Check all that a kept document tells, and how many parts each answer looks at."""
        told = matches(saying, document)
        most = helper.ceiling(saying, reach(document))
        self.asked(kept, 0, most)
        self.assertEqual((kept.count(), type(kept.count())), (len(told), int))
        self.asked(kept, 2, 2 * most)
        self.assertEqual(kept.document(), document)
        self.assertEqual((kept.first(), kept.last()), (told[0], told[-1]) if told else (None, None))
        self.asked(kept, 0, 3 * most)
        self.assertEqual(kept.listed(len(told)), told)
        self.asked(kept, 0, (len(told) + 1) * most)
        for many in (0, 1, len(told) // 2, len(told) + 1, 10 ** 30):
            self.assertEqual(kept.listed(many), told[:many])
            self.asked(kept, 0, (min(many, len(told)) + 1) * most)
        for at in {0, len(told) - 1, *rng.sample(range(len(told)), min(5, len(told)))} if told else ():
            self.assertEqual(kept.match(at), told[at])
            self.asked(kept, 1, most)
        for wrong in (len(told), len(told) + 5, -1):
            with self.assertRaises(BadNumber):
                kept.match(wrong)
            self.asked(kept, 0, most)
        self.check_tuples(kept, document, saying, told, rng)

    def check_tuples(self, kept, document, saying, told, rng):
        """Check what is told of tuples, matches and others."""
        names = len(free_names(saying))
        most = helper.ceiling(saying, reach(document))
        tuples = [tuple(rng.randrange(len(document) + 2) for _ in range(names)) for _ in range(5)]
        tuples += [(0,) * names, (10 ** 30,) * names, *rng.sample(told, min(4, len(told))), *told[:1], *told[-1:]]
        tuples += [nodes[:-1] + (10 ** 25,) for nodes in told[:1] if nodes]
        for nodes in tuples:
            self.assertEqual(kept.number(nodes), len([one for one in told if one < nodes]))
            self.asked(kept, 0, most)
            self.assertEqual(kept.behind(nodes), next((one for one in told if one > nodes), None))
            self.asked(kept, 0, most)
            if all(node < len(document) for node in nodes):
                self.assertIs(kept.is_match(nodes), nodes in told)
            else:
                with self.assertRaises(BadNodes):
                    kept.is_match(nodes)
            self.asked(kept, 0, most)

    def asked(self, kept, least, most):
        """Check that so many parts were looked at since it was asked last, and none behind that."""
        looks = kept.looks()
        self.assertIs(type(looks), int)
        self.assertLessEqual(least, looks)
        self.assertLessEqual(looks, most)
        self.assertEqual(kept.looks(), 0)

    def made(self, document, saying):
        """A kept document, with its making's looks checked."""
        kept = Kept(document, saying)
        self.asked(kept, len(document), 6 * len(document) + 6)
        return kept

    def test_small_documents(self):
        rng = random.Random(81)
        for text in TEXTS:
            saying = read_saying(text)
            for document in rng.sample(helper.all_documents(3, "abc"), 20) + rng.sample(helper.lettered(6), 12) + [()]:
                self.check(self.made(document, saying), document, saying, rng)

    def test_rows_chains_and_others(self):
        rng = random.Random(82)
        within = tuple(("abc"[depth], depth) for _ in range(3) for depth in (0, 1, 2, 2, 2, 1, 2))
        marks = "abcb"
        for document in (helper.row(13), helper.chain(12), helper.comb(14), within,
                         tuple((marks[at % 4], 0) for at in range(14)),
                         tuple((marks[at % 4], at) for at in range(12))):
            for text in TEXTS:
                saying = read_saying(text)
                self.check(self.made(document, saying), document, saying, rng)

    def test_by_chance(self):
        rng = random.Random(83)
        for _ in range(250):
            saying = helper.saying_by_chance(rng)
            document = helper.document_by_chance(rng, rng.choice((1, 4, 8, 12)))
            self.check(self.made(document, saying), document, saying, rng)

    def test_told_sayings(self):
        rng = random.Random(84)
        for text in helper.TOLD:
            saying = read_saying(text.replace("M", "ac").replace("N", "b").replace("K", "bd"))
            for many in (3, 9, 14):
                document = helper.document_by_chance(rng, many)
                self.check(self.made(document, saying), document, saying, rng)

    def test_without_free_names(self):
        for document, count in ((), 0), ((("a", 0),), 1), ((("b", 0), ("a", 1)), 1), ((("b", 0),), 0):
            kept = Kept(document, read_saying("some p p in a"))
            self.assertEqual((kept.count(), kept.number(()), kept.behind(())), (count, 0, None))
            self.assertEqual((kept.listed(3), kept.listed(0)), (((),) * count, ()))
            self.assertEqual((kept.first(), kept.last()), ((), ()) if count else (None, None))
            self.assertIs(kept.is_match(()), count == 1)
            for nodes in ((0,), None, [], 0):
                for call in (kept.number, kept.behind, kept.is_match):
                    with self.assertRaises(BadNodes):
                        call(nodes)
            if count:
                self.assertEqual(kept.match(0), ())
            with self.assertRaises(BadNumber):
                kept.match(count)

    def test_without_nodes(self):
        kept = self.made((), read_saying("(x over y or not x top)"))
        self.assertEqual((kept.count(), kept.listed(9), kept.first(), kept.last()), (0, (), None, None))
        self.assertEqual((kept.number((0, 0)), kept.behind((7, 10 ** 30)), kept.document()), (0, None, ()))
        with self.assertRaises(BadNodes):
            kept.is_match((0, 0))

    def test_wrong_things(self):
        kept = self.made((("a", 0), ("b", 1), ("b", 1)), read_saying("x over y"))
        for thing in NOT_NUMBERS + (2, 10 ** 30):
            with self.assertRaises(BadNumber):
                kept.match(thing)
        for thing in NOT_NUMBERS:
            with self.assertRaises(BadCount):
                kept.listed(thing)
            for nodes in ((thing, 0), (0, thing), (0, 1, thing)):
                for call in (kept.number, kept.behind, kept.is_match):
                    with self.assertRaises(BadNodes):
                        call(nodes)
        for thing in helper.ANY_OBJECTS + (None, 0, "", "01", (), (0,), (0, 1, 2), [0, 1], ((0, 1),), (0, (1,))):
            for call in (kept.number, kept.behind, kept.is_match):
                with self.assertRaises(BadNodes):
                    call(thing)
        for nodes in ((3, 0), (0, 3), (0, 10 ** 30)):
            with self.assertRaises(BadNodes):
                kept.is_match(nodes)
            self.assertIsInstance(kept.number(nodes), int)
        # None of this has changed anything.
        self.assertEqual((kept.listed(9), kept.document()), (((0, 1), (0, 2)), (("a", 0), ("b", 1), ("b", 1))))

    def test_refused_calls_look_at_little(self):
        document = helper.row(300) + helper.chain(100)
        saying = read_saying("(x ahead y and y in a)")
        kept = self.made(document, saying)
        most = helper.ceiling(saying, reach(document))
        for call in (lambda: kept.match(10 ** 9), lambda: kept.match(None), lambda: kept.number((0,)),
                     lambda: kept.behind(None), lambda: kept.is_match((0, 500)), lambda: kept.listed(-1)):
            with self.assertRaises((BadNumber, BadNodes, BadCount)):
                call()
            self.asked(kept, 0, most)

    def test_each_reading_and_making_counts(self):
        # At the making each part is made, and each but the top is read by what stands above it.
        rng = random.Random(90)
        for document in (helper.row(64), helper.chain(50), helper.comb(31), helper.document_by_chance(rng, 70)):
            kept = Kept(document, read_saying("x top"))
            pairs = sum(max(0, helper.children_plainly(document, node) - 1) for node in (None, *range(len(document))))
            self.asked(kept, 2 * (len(document) + 1 + pairs) - 1, 6 * len(document) + 6)
        # An edit reads and makes each part on the way to its place, and reads the other side of each pair there.
        for document, nodes, pairs in ((helper.row(64), 2, 6), (helper.chain(50), 51, 0), (helper.row(1), 2, 0)):
            kept = Kept(document, read_saying("x top"))
            for edit in (("mark", len(document) - 1, "b"), ("put", (None, 0), document[:1])):
                twin = kept.copy()
                twin.edit(edit)
                nodes = nodes if edit[0] == "mark" else 1
                self.asked(twin, 2 * nodes + 3 * pairs, helper.edit_ceiling(edit, reach(twin.document())))

    def test_bad_making(self):
        saying = read_saying("x top")
        great = read_saying(helper.eight_marks("and"))
        for thing in helper.NOT_DOCUMENTS:
            for call in (lambda: Kept(thing, saying), lambda: Kept(thing, None), lambda: Kept(saying=great, document=thing)):
                with self.assertRaises(BadDocument):
                    call()
        for thing in helper.NOT_SAYINGS:
            with self.assertRaises(BadSaying):
                Kept((), thing)
        with self.assertRaises(TooMany):
            Kept((), great)

    def test_by_name(self):
        kept = Kept(saying=read_saying("x over y"), document=(("a", 0), ("b", 1)))
        told = (kept.match(number=0), kept.number(nodes=(0, 5)), kept.behind(nodes=(0, 0)), kept.is_match(nodes=(1, 0)),
                kept.listed(most=1))
        self.assertEqual(told, ((0, 1), 1, (0, 1), False, ((0, 1),)))

    def test_copy(self):
        document = helper.document_by_chance(random.Random(85), 40)
        saying = read_saying("(x over y and y in b)")
        kept = Kept(document, saying)
        twin = kept.copy()
        self.assertIsInstance(twin, Kept)
        # The copy looks at nothing, and begins with none; the making's looks stay with the other one.
        self.assertEqual(twin.looks(), 0)
        self.asked(kept, 40, 246)
        self.assertEqual((twin.listed(100), twin.document(), twin.shapes()),
                         (kept.listed(100), kept.document(), kept.shapes()))
        kept.looks()
        twin.looks()
        twin.count()
        self.assertEqual(kept.looks(), 0)
        self.assertGreater(twin.looks(), 0)
        twin.edit(("take", 0))
        self.assertEqual(kept.document(), document)
        kept.edit(("mark", 0, "h"))
        self.assertEqual(twin.document(), helper.tried(document, ("take", 0))[0])


class GreatDocumentsTest(unittest.TestCase):
    """Point 3, where there are far too many tuples to try: counts reckoned by sums."""

    def sums(self, document):
        """The counts of some sayings, told from the rows and depths of the document."""
        below = {None: []}
        path = []
        for node, (_, depth) in enumerate(document):
            path = path[:depth]
            below[path[-1] if path else None].append(node)
            below[node] = []
            path.append(node)
        widths = [len(row) for row in below.values()]
        marked = [document[node][0] == "b" for node in range(len(document))]
        return {
            "x is x": len(document), "x in b": sum(marked), "x top": len(below[None]),
            "x over y": len(document) - len(below[None]), "x above y": sum(depth for _, depth in document),
            "x then y": sum(max(0, width - 1) for width in widths),
            "x ahead y": sum(width * (width - 1) // 2 for width in widths),
            "(x over y and (x over z and y ahead z))": sum(len(row) * (len(row) - 1) // 2 for node, row in below.items()
                                                           if node is not None),
            "(x above z and (y above z and not x is y))": sum(depth * (depth - 1) for _, depth in document),
            "(x over y and y in b)": sum(marked[node] for node, row in below.items() if node is not None for node in row),
            "(x is x and (y is y and z in b))": len(document) ** 2 * sum(marked),
            "some p (p in b and not p top)": int(any(marked[node] and document[node][1] for node in range(len(document)))),
        }

    def check(self, document, rng, texts, edits=0):
        """Check the counts, and that the answers agree with one another, and how many parts they look at."""
        self.assertTrue(is_document(document))
        for text in texts:
            saying = read_saying(text)
            kept = Kept(document, saying)
            self.assertLessEqual(len(document), kept.looks())
            self.check_answers(kept, document, saying, self.sums(document)[text], rng)
            now = document
            for _ in range(edits):
                edit = helper.edit_by_chance(rng, now)
                behind = helper.tried(now, edit)[0]
                kept.looks()
                kept.edit(edit)
                self.assertLessEqual(kept.looks(), helper.edit_ceiling(edit, max(reach(now), reach(behind))))
                now = behind
                self.check_answers(kept, now, saying, self.sums(now)[text], rng)

    def check_answers(self, kept, document, saying, count, rng):
        """The same of one edition."""
        most = helper.ceiling(saying, reach(document))
        kept.looks()
        self.assertEqual(kept.count(), count)
        self.assertLessEqual(1, kept.looks())
        for at in {0, count - 1, rng.randrange(count), rng.randrange(count)} if count else ():
            nodes = kept.match(at)
            self.assertLessEqual(kept.looks(), most)
            self.assertEqual(kept.number(nodes), at)
            self.assertLessEqual(kept.looks(), most)
            self.assertEqual(kept.behind(nodes), kept.match(at + 1) if at + 1 < count else None)
            self.assertLessEqual(kept.looks(), 2 * most)
            self.assertIs(kept.is_match(nodes), True)
            self.assertLessEqual(kept.looks(), most)
            if nodes and at > 0:
                self.assertEqual(kept.match(at), min(nodes, kept.behind(kept.match(at - 1))))

    def test_hundreds_of_nodes(self):
        rng = random.Random(86)
        texts = list(self.sums(()))
        for document in (helper.row(300, "b"), helper.chain(200, "b"), helper.comb(250),
                         helper.document_by_chance(rng, 400), helper.document_by_chance(rng, 300)):
            self.check(document, rng, texts, 4)

    def test_widths_at_which_a_height_begins(self):
        rng = random.Random(87)
        texts = ["x over y", "(x over y and (x over z and y ahead z))", "x ahead y"]
        for width in (2, 3, 5, 8, 13, 21, 34, 55, 89, 144, 233, 377):
            for many in (width - 1, width, width + 1):
                self.check(helper.row(many, "b"), rng, texts, 2)
                self.check((("a", 0),) + tuple(("b", 1) for _ in range(many)), rng, texts, 2)

    def test_thousands_of_nodes(self):
        rng = random.Random(88)
        for document in (helper.row(20000, "b"), helper.chain(4000, "b"), helper.comb(4000)):
            for text in ("(x above z and (y above z and not x is y))", "x ahead y", "some p (p in b and not p top)"):
                saying = read_saying(text)
                kept = Kept(document, saying)
                self.assertLessEqual(kept.looks(), 6 * len(document) + 6)
                self.check_answers(kept, document, saying, self.sums(document)[text], rng)

    def test_next_ones_in_a_row(self):
        document = helper.document_by_chance(random.Random(89), 120)
        saying = read_saying("(x above y and not y in a)")
        kept = Kept(document, saying)
        found = [kept.first()]
        while found[-1] is not None:
            found.append(kept.behind(found[-1]))
        self.assertEqual(tuple(found[:-1]), kept.listed(10 ** 9))
        self.assertEqual(found[:-1], sorted(set(found[:-1])))
        self.assertEqual(len(found) - 1, kept.count())
        self.assertEqual([kept.match(at) for at in range(kept.count())], found[:-1])


if __name__ == "__main__":
    unittest.main()
