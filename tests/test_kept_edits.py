"""Points 27 and 36: kept documents that are edited."""

import random
import unittest

import helper
from everymatch.answers import Kept
from everymatch.documents import children, is_document
from everymatch.edits import edited
from everymatch.errors import BadEdit
from everymatch.meaning import matches
from everymatch.sayings import read_saying
from everymatch.shapes import height_of, is_balanced, reach, width_of

# Further saying: of none to three free names.
TEXTS = ("some p (p in a and some q (p over q and q in b))", "(x in a and not some y x over y)", "(x then y and x in ab)",
         "(x above y or y ahead x)", "(x above z and (y above z and not x is y))")


class EditTest(unittest.TestCase):
    def do(self, kept, edit):
        """Do an edit; check what it returns, the document, the looks and the shapes behind it."""
        before = kept.document()
        behind = edited(before, edit)
        kept.looks()
        self.assertIsNone(kept.edit(edit))
        looks = kept.looks()
        self.assertLessEqual(1, looks)
        self.assertLessEqual(looks, helper.edit_ceiling(edit, max(reach(before), reach(behind))), edit)
        self.assertEqual(kept.document(), behind)
        self.check_shapes(kept)

    def check_shapes(self, kept):
        """Check that the shapes are balanced, and as wide as the document's rows."""
        document = kept.document()
        shapes = kept.shapes()
        self.assertIs(type(shapes), tuple)
        self.assertEqual(len(shapes), len(document) + 1)
        for node, shape in zip([None, *range(len(document))], shapes):
            many = len(children(document, node))
            if many == 0:
                self.assertEqual((shape, type(shape)), ((), tuple))
            else:
                self.assertIs(is_balanced(shape), True)
                self.assertEqual(width_of(shape), many)

    def check_as_new(self, kept, saying, rng):
        """Check that all is told as by one that is made anew."""
        document = kept.document()
        told = matches(saying, document)
        new = Kept(document, saying)
        self.assertEqual((kept.count(), kept.listed(len(told) + 1)), (len(told), told))
        self.assertEqual((kept.first(), kept.last()), (new.first(), new.last()))
        for at in rng.sample(range(len(told)), min(3, len(told))):
            self.assertEqual(kept.match(at), told[at])
            self.assertIs(kept.is_match(told[at]), True)
        for _ in range(3):
            nodes = tuple(rng.randrange(len(document) + 2) for _ in range(len(helper.free_plainly(saying))))
            self.assertEqual((kept.number(nodes), kept.behind(nodes)), (new.number(nodes), new.behind(nodes)))
            self.assertEqual(kept.number(nodes), len([one for one in told if one < nodes]))

    def test_every_edit_of_small_documents(self):
        rng = random.Random(91)
        for document in rng.sample(helper.lettered(4), 8) + [(), helper.row(5, "b")]:
            saying = read_saying(rng.choice(TEXTS))
            kept = Kept(document, saying)
            for edit in helper.edits_near(document):
                twin = kept.copy()
                if helper.tried(document, edit) is None:
                    with self.assertRaises(BadEdit):
                        twin.edit(edit)
                    self.assertEqual((twin.looks(), twin.document()), (0, document))
                elif rng.random() < 0.25:
                    self.do(twin, edit)
                    self.check_as_new(twin, saying, rng)
            self.assertEqual((kept.document(), kept.count()), (document, len(matches(saying, document))))

    def test_rows_of_many_edits(self):
        rng = random.Random(92)
        for turn in range(60):
            saying = helper.saying_by_chance(rng) if turn % 2 else read_saying(rng.choice(TEXTS))
            kept = Kept(helper.document_by_chance(rng, rng.randrange(10)), saying)
            for _ in range(12):
                edit = helper.edit_by_chance(rng, kept.document())
                if len(edited(kept.document(), edit)) < 14:
                    self.do(kept, edit)
                    self.check_as_new(kept, saying, rng)

    def test_great_documents(self):
        rng = random.Random(93)
        chain = helper.chain(300, "b")
        for document in (helper.row(377), chain, helper.comb(301), helper.document_by_chance(rng, 400),
                         (("a", 0),) + tuple(("b", 1) for _ in range(144)) + helper.row(233),
                         chain + tuple(("c", 300) for _ in range(89))):
            self.assertTrue(is_document(document))
            for text in ("(x over y and x in b)", "some p p in h"):
                kept = Kept(document, read_saying(text))
                last = len(document) - 1
                for edit in (("mark", 0, "h"), ("mark", last, "b"), ("put", (None, 0), document[:1]),
                             ("take", 1), ("move", 0, (None, 0)), ("put", (last // 2, 0), (("b", 0),) + tuple(
                                 ("c", 1) for _ in range(99))), ("move", last // 2, (None, 0)), ("move", 0, (0, 0)),
                             ("take", last // 2), *[None] * 10):
                    edit = edit or helper.edit_by_chance(rng, kept.document())
                    if helper.tried(kept.document(), edit) is not None:
                        self.do(kept, edit)
                now = kept.document()
                if text == "some p p in h":
                    self.assertEqual(kept.count(), int(any(mark == "h" for mark, _ in now)))
                else:
                    self.assertEqual(kept.count(), sum(len(children(now, node)) for node in range(len(now))
                                                       if now[node][0] == "b"))
                self.assertEqual(kept.listed(5), Kept(now, read_saying(text)).listed(5))

    def test_moves_of_great_pieces(self):
        document = helper.row(50) + tuple((mark, depth) for mark, depth in helper.comb(1200, "b"))
        kept = Kept(document, read_saying("x over y"))
        # The piece keeps its parts: far fewer are looked at than it has nodes.
        for edit in (("move", 50, (None, 0)), ("move", 0, (None, 25)), ("move", 25, (3, 0)), ("move", 4, (None, 50)),
                     ("take", 50), ("put", (None, 7), helper.comb(200))):
            self.do(kept, edit)
            self.assertEqual(kept.count(), sum(depth > 0 for _, depth in kept.document()))

    def test_edits_at_the_ends_and_in_the_middle(self):
        rng = random.Random(94)
        for width in (2, 3, 5, 8, 13, 21, 34, 55, 89, 144):
            kept = Kept(helper.row(width, "b"), read_saying("x then y"))
            for at in (0, width - 1, width // 2, rng.randrange(width)):
                for edit in (("take", at), ("put", (None, at), (("a", 0),)), ("put", (None, width), (("a", 0),)),
                             ("mark", at, "c"), ("move", at, (None, width - 1)), ("move", at, (None, 0)),
                             ("move", at, (None, at))):
                    twin = kept.copy()
                    self.do(twin, edit)
                    self.assertEqual(twin.count(), max(0, len(twin.document()) - 1))

    def test_rows_of_few_children_for_their_height(self):
        # Children are taken as long as the row's height stays: then a take, or a move, turns most.
        rng = random.Random(95)
        kept = Kept(helper.row(100), read_saying("x top"))
        for _ in range(150):
            at = rng.randrange(len(kept.document()))
            twin = kept.copy()
            self.do(twin, ("take", at))
            if height_of(twin.shapes()[0]) == 7:
                kept = twin
        many = len(kept.document())
        self.assertLess(many, 60)
        for at in range(many):
            for edit in (("take", at), ("move", at, (None, many - 1)), ("move", at, (None, 0)),
                         ("put", (None, at), (("b", 0), ("a", 1)))):
                self.do(kept.copy(), edit)

    def test_from_nothing_and_to_nothing(self):
        kept = Kept((), read_saying("x ahead y"))
        self.assertEqual(kept.shapes(), ((),))
        for many in range(20):
            self.do(kept, ("put", (None, many // 2), (("a", 0),)))
            self.assertEqual(kept.count(), (many + 1) * many // 2)
        for many in reversed(range(20)):
            self.do(kept, ("take", many // 3))
            self.assertEqual(kept.count(), many * (many - 1) // 2)
        self.assertEqual((kept.shapes(), kept.document()), (((),), ()))

    def test_shapes(self):
        kept = Kept((("a", 0), ("b", 1), ("b", 1), ("c", 0)), read_saying("x top"))
        self.assertEqual(kept.shapes(), ((None, None), (None, None), (), (), ()))
        for document in helper.lettered(6):
            self.check_shapes(Kept(document, ("top", "x")))

    def test_bad_edits(self):
        document = (("a", 0), ("b", 1), ("c", 0))
        kept = Kept(document, read_saying("x over y"))
        shapes = kept.shapes()
        most = helper.edit_ceiling(("take", 0), reach(document))
        for thing in helper.ANY_OBJECTS + (None, 0, "", (), ("take",), ("take", 3), ("take", -1), ("take", True),
                                           ["take", 0], ("mark", 0, "i"), ("mark", 3, "a"), ("put", (None, 3), (("a", 0),)),
                                           ("put", (None, 0), ()), ("put", (None, 0), helper.row(2)),
                                           ("put", (0, 2), (("a", 0),)), ("put", (0, 0), helper.chain(19998)),
                                           ("move", 0, (None, 2)), ("move", 0, (1, 0)), ("move", 0, (0, 10 ** 30)),
                                           ("move", 10 ** 30, (None, 0)), ("drop", 0)):
            kept.looks()
            with self.assertRaises(BadEdit):
                kept.edit(thing)
            self.assertLessEqual(kept.looks(), most)
            with self.assertRaises(BadEdit):
                kept.edit(edit=thing)
            self.assertEqual((kept.document(), kept.listed(9), kept.shapes()), (document, ((0, 1),), shapes))
        self.assertIsNone(kept.edit(edit=("put", (0, 0), helper.chain(19997))))
        self.assertEqual(kept.count(), 19998)

    def test_a_copy_goes_its_own_way(self):
        rng = random.Random(96)
        saying = read_saying("(x over y and y in b)")
        first = Kept(helper.document_by_chance(rng, 10), saying)
        kept = [first, first.copy(), first.copy()]
        for _ in range(40):
            one = rng.choice(kept)
            others = [(other, other.document(), other.listed(99), other.shapes()) for other in kept if other is not one]
            edit = helper.edit_by_chance(rng, one.document())
            if len(edited(one.document(), edit)) < 16:
                self.do(one, edit)
                self.check_as_new(one, saying, rng)
            for other, document, told, shapes in others:
                self.assertEqual((other.document(), other.listed(99), other.shapes()), (document, told, shapes))
            if rng.random() < 0.2:
                kept[rng.randrange(3)] = one.copy()


if __name__ == "__main__":
    unittest.main()
