"""Points 8 and 9: edits, and what becomes of the nodes."""

import unittest

import helper
from everymatch import edits
from everymatch.documents import piece_of, place_of
from everymatch.edits import back_edit, carried, edited, edited_all, is_edit, kept_pairs
from everymatch.errors import BadDocument, BadEdit

# a(b c(d)) e
SMALL = (("a", 0), ("b", 1), ("c", 1), ("d", 2), ("e", 0))
LEAF = (("h", 0),)
CALLS = (edited, carried, kept_pairs, back_edit)
BACK = {"mark": "mark", "put": "take", "take": "put", "move": "move"}
HUGE = 10 ** 30

NOT_NUMBERS = helper.ANY_OBJECTS + (None, "", "0", (), (0,), -1, -HUGE)
NOT_PLACES = helper.ANY_OBJECTS + (None, 0, "", (), (0,), (None,), (0, 0, 0), [0, 0], [None, 0], (0, None),
                                   (None, None), (True, 0), (0, True), (None, False), (-1, 0), (0, -1), ("0", 0),
                                   (0, "0"), ((0,), 0), (0, (0,)), ([], 0), (helper.Same(), 0))
NOT_PIECES = helper.NOT_DOCUMENTS + ((), (("a", 0), ("b", 0)), (("a", 0), ("b", 1), ("c", 0)), helper.row(20000))


def wrong_forms():
    """Objects that have nearly the form of an edit."""
    found = list(helper.ANY_OBJECTS) + [None, 0, "", "mark", "take", (), ("take",), ("mark",), (0,), ([],)]
    found += [["take", 0], ["mark", 0, "a"], ["put", (None, 0), LEAF], ["move", 0, (None, 0)]]
    found += [("take", 0, 0), ("mark", 0), ("mark", 0, "a", 0), ("put", (None, 0)), ("put", LEAF, (None, 0)),
              ("put", (None, 0), LEAF, 0), ("move", 0), ("move", (None, 0), 0), ("move", 0, None, 0),
              ("Take", 0), ("tak", 0), (b"take", 0), (["take"], 0), (("take",), 0),
              ("mark", "a", 0), ("put", 0, (None, 0)), ("move", 0, LEAF), ("put", [None, 0], LEAF),
              ("put", (None, 0), list(LEAF)), ("put", (None, 0), (["h", 0],))]
    for node in NOT_NUMBERS:
        found += [("take", node), ("mark", node, "a"), ("move", node, (None, 0)), ("put", (None, node), LEAF),
                  ("move", 0, (None, node))]
    for word in ("give", "Move", "takes", "", "mar", "putt", b"move", None, 0, ("move",), ["move"], helper.Same()):
        found += [(word, 0), (word, 0, "a"), (word, (None, 0), LEAF), (word, 0, (None, 0))]
    found += [("mark", 0, mark) for mark in helper.NOT_MARKS]
    for place in NOT_PLACES:
        found += [("put", place, LEAF), ("move", 0, place)]
    return found + [("put", (None, 0), piece) for piece in NOT_PIECES]


class IsEditTest(unittest.TestCase):
    def test_edits(self):
        for number in (0, 1, 20000, HUGE):
            for thing in (("mark", number, "a"), ("take", number), ("put", (None, number), LEAF),
                          ("put", (number, 0), LEAF), ("move", number, (None, 0)), ("move", 0, (number, number))):
                self.assertIs(is_edit(thing), True, thing)
        self.assertIs(is_edit(thing=("mark", 0, "h")), True)
        for great in (helper.GREAT[1], (("a", 0),) + tuple(("b", 1) for _ in range(19999))):
            self.assertIs(is_edit(("put", (None, 0), great)), True)

    def test_what_is_no_edit(self):
        for thing in wrong_forms():
            self.assertIs(is_edit(thing), False, repr(thing)[:80])


class EditedTest(unittest.TestCase):
    def test_examples(self):
        self.assertEqual(edited(SMALL, ("mark", 2, "h")), SMALL[:2] + (("h", 1),) + SMALL[3:])
        self.assertEqual(edited(SMALL, ("mark", 2, "c")), SMALL)
        self.assertEqual(edited(SMALL, ("take", 2)), (("a", 0), ("b", 1), ("e", 0)))
        self.assertEqual(edited(SMALL, ("put", (2, 1), (("f", 0), ("g", 1)))),
                         SMALL[:4] + (("f", 2), ("g", 3)) + SMALL[4:])
        self.assertEqual(edited(SMALL, ("put", (None, 2), LEAF)), SMALL + LEAF)
        self.assertEqual(edited(SMALL, ("move", 2, (2, 0))),
                         (("a", 0), ("b", 1), ("e", 0), ("c", 1), ("d", 2)))
        self.assertEqual(edited(SMALL, ("move", 0, (0, 0))),
                         (("e", 0), ("a", 1), ("b", 2), ("c", 2), ("d", 3)))
        self.assertEqual(edited((), ("put", (None, 0), LEAF)), LEAF)
        self.assertEqual(edited(LEAF, ("take", 0)), ())
        self.assertEqual(edited(LEAF, ("move", 0, (None, 0))), LEAF)

    def test_all_edits_of_small_documents(self):
        for document in helper.lettered(4):
            for edit in helper.edits_near(document):
                right = helper.tried(document, edit)
                if right is None:
                    self.assert_refused(document, edit)
                else:
                    self.assertEqual(edited(document, edit), right[0])
                    self.assertEqual(edited_all(document, (edit,)), right[0])
                    self.check_numbers(document, edit, right[1])
                    self.check_back(document, edit, right[0])

    def assert_refused(self, document, edit):
        for function in CALLS:
            with self.assertRaises(BadEdit, msg=(document, edit)):
                function(document, edit)
        with self.assertRaises(BadEdit):
            edited_all(document, (edit,))

    def check_numbers(self, document, edit, names):
        numbers = tuple(names.index(node) if node in names else None for node in range(len(document)))
        self.assertEqual(carried(document, edit), numbers)
        if edit[0] == "move":
            gone = range(edit[1], edit[1] + len(piece_of(document, edit[1])))
            numbers = tuple(None if node in gone else number for node, number in enumerate(numbers))
        self.assertEqual(kept_pairs(document, edit), numbers)

    def check_back(self, document, edit, newer):
        back = back_edit(document, edit)
        self.assertIs(is_edit(back), True)
        self.assertEqual(back[0], BACK[edit[0]])
        self.assertEqual(edited(newer, back), document)

    def test_great_numbers_do_not_fit(self):
        for edit in (("take", HUGE), ("mark", HUGE, "a"), ("move", HUGE, (None, 0)), ("move", 0, (HUGE, 0)),
                     ("move", 0, (None, HUGE)), ("put", (HUGE, 0), LEAF), ("put", (0, HUGE), LEAF),
                     ("take", 5), ("put", (5, 0), LEAF), ("put", (None, 3), LEAF), ("move", 4, (None, 2)),
                     ("move", 4, (4, 0)), ("move", 0, (1, 0))):
            self.assertIs(is_edit(edit), True)
            self.assert_refused(SMALL, edit)

    def test_wrong_forms_are_refused(self):
        for thing in wrong_forms():
            for function in CALLS:
                with self.assertRaises(BadEdit):
                    function(SMALL, thing)

    def test_names_and_the_order_of_errors(self):
        edit = ("move", 1, (1, 0))
        for function in CALLS:
            self.assertEqual(function(edit=edit, document=SMALL), function(SMALL, edit))
            for thing in helper.NOT_DOCUMENTS:
                for wrong in (edit, None, ("take", HUGE)):
                    with self.assertRaises(BadDocument):
                        function(thing, wrong)
                with self.assertRaises(BadDocument):
                    function(edit=None, document=thing)

    def test_back_edit_keeps_the_place(self):
        self.assertEqual(back_edit(SMALL, ("mark", 3, "a")), ("mark", 3, "d"))
        self.assertEqual(back_edit(SMALL, ("take", 2)), ("put", (0, 1), (("c", 0), ("d", 1))))
        self.assertEqual(back_edit(SMALL, ("put", (2, 1), LEAF)), ("take", 4))

    def test_a_move_to_its_own_place(self):
        for document in helper.lettered(5):
            for node in range(len(document)):
                edit = ("move", node, place_of(document, node))
                size = len(piece_of(document, node))
                self.assertEqual(edited(document, edit), document)
                self.assertEqual(carried(document, edit), tuple(range(len(document))))
                kept = tuple(None if node <= one < node + size else one for one in range(len(document)))
                self.assertEqual(kept_pairs(document, edit), kept)


class GreatTest(unittest.TestCase):
    def test_up_to_the_limit(self):
        for one in helper.GREAT:
            short = one[:-1]
            last = len(one) - 1
            grown = edited(short, ("put", place_of(one, last), (("a", 0),)))
            self.assertEqual(grown, one)
            for place in ((None, 0), (last, 0), (0, 0)):
                for function in CALLS:
                    with self.assertRaises(BadEdit):
                        function(one, ("put", place, LEAF))
                with self.assertRaises(BadEdit):
                    edited_all(one, (("put", place, LEAF),))
            self.assertEqual(edited(one, ("mark", last, "h"))[-1], ("h", one[-1][1]))
            self.assertEqual(edited(one, ("take", last)), short)
            self.assertEqual(edited(edited(one, ("take", 0)), back_edit(one, ("take", 0))), one)
            move = ("move", last, (None, 0))
            self.assertEqual(edited(one, move), (("a", 0),) + short)
            self.assertEqual(carried(one, move), (*range(1, last + 1), 0))
            self.assertEqual(kept_pairs(one, move), (*range(1, last + 1), None))
            self.assertEqual(edited(edited(one, move), back_edit(one, move)), one)

    def test_great_pieces(self):
        chain = helper.chain(20000)
        self.assertEqual(edited((), ("put", (None, 0), chain)), chain)
        self.assertEqual(edited(LEAF, ("put", (0, 0), chain[:19999]))[-1], ("a", 19999))
        with self.assertRaises(BadEdit):
            edited(LEAF, ("put", (0, 0), chain))
        with self.assertRaises(BadEdit):
            edited((), ("put", (None, 0), helper.chain(20001)))


class EditedAllTest(unittest.TestCase):
    def test_in_sequence(self):
        self.assertEqual(edited_all(SMALL, ()), SMALL)
        row = (("put", (None, 0), LEAF), ("put", (0, 0), LEAF), ("mark", 1, "a"), ("move", 1, (None, 0)))
        self.assertEqual(edited_all((), row), (("a", 0), ("h", 0)))
        self.assertEqual(edited_all(edits=row, document=()), (("a", 0), ("h", 0)))
        with self.assertRaises(BadEdit):
            edited_all((), row[::-1])

    def test_a_thousand(self):
        puts = (("put", (None, 0), LEAF),) * 1000
        self.assertEqual(edited_all((), puts), LEAF * 1000)
        with self.assertRaises(BadEdit):
            edited_all((), puts + (("take", 0),))
        with self.assertRaises(BadEdit):
            edited_all((), puts[:500] + (("take", 500),) + puts[501:])
        with self.assertRaises(BadEdit):
            edited_all((), puts[:500] + (["take", 0],) + puts[501:])
        great = helper.row(20000)
        self.assertEqual(edited_all(great, (("take", 0), ("put", (None, 19999), (("a", 0),))) * 100), great)

    def test_other_objects(self):
        takes = [("take", 0)]
        for thing in helper.ANY_OBJECTS + (None, 0, "", "a", takes, ("take", 0), (takes,), (None,), (takes[0], ()),
                                           (SMALL,), ("take",)):
            with self.assertRaises(BadEdit):
                edited_all(SMALL, thing)
        self.assertEqual(takes, [("take", 0)])

    def test_a_middle_edit_beyond_the_limit(self):
        full = helper.row(20000)
        with self.assertRaises(BadEdit):
            edited_all(full, (("take", 0), ("put", (None, 0), LEAF), ("put", (None, 0), LEAF), ("take", 0)))

    def test_bad_document_comes_first(self):
        for thing in helper.NOT_DOCUMENTS:
            with self.assertRaises(BadDocument):
                edited_all(thing, None)
            with self.assertRaises(BadDocument):
                edits.edited_all(edits=(("take", HUGE),), document=thing)


if __name__ == "__main__":
    unittest.main()
