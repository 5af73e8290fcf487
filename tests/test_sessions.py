"""Point 29: sessions."""

import random
import unittest

import helper
from everymatch.edits import edited, kept_pairs
from everymatch.errors import (BadDocument, BadEdit, BadEdition, BadIndex, BadNodes, BadNumber, BadSayings, TooMany)
from everymatch.meaning import matches
from everymatch.sayings import read_saying
from everymatch.sessions import Session

TEXTS = ("some p (p in a and some q p over q)", "x in a", "(x over y and y in b)", "(x ahead y or y above x)",
         "(x above z and (y above z and not x is y))", "(x in a and not some p p in d)")


class Told:
    """What a session is to tell: its documents, and the pairs of each edition with the one ahead."""

    def __init__(self, document):
        self.documents = [document]
        self.pairs = [None]

    def edit(self, edit):
        self.pairs.append(kept_pairs(self.documents[-1], edit))
        self.documents.append(edited(self.documents[-1], edit))
        return len(self.documents) - 1

    def back(self, edition):
        self.pairs.append((None,) * len(self.documents[-1]))
        self.documents.append(self.documents[edition])
        return len(self.documents) - 1

    def copied(self):
        twin = Told(None)
        twin.documents, twin.pairs = list(self.documents), list(self.pairs)
        return twin


class SessionTest(unittest.TestCase):
    def check(self, session, told, sayings, rng, editions=None):
        """Check all that is told of the editions, of all of them if none are given."""
        for edition in range(len(told.documents)) if editions is None else editions:
            self.assertEqual(session.document(edition), told.documents[edition])
            for index, saying in enumerate(sayings):
                found = matches(saying, told.documents[edition])
                self.assertEqual(session.count(index, edition), len(found))
                for at in rng.sample(range(len(found)), min(3, len(found))):
                    self.assertEqual(session.match(index, edition, at), found[at])
                with self.assertRaises(BadNumber):
                    session.match(index, edition, len(found))
                nodes = tuple(rng.randrange(12) for _ in helper.free_plainly(saying))
                for nodes in [nodes, *rng.sample(found, min(2, len(found)))]:
                    self.assertEqual(session.number(index, edition, nodes), len([one for one in found if one < nodes]))
                    self.assertEqual(session.behind(index, edition, nodes), next((one for one in found if one > nodes), None))
                self.check_changes(session, told, index, saying, edition)
        self.assertGreaterEqual(session.looks(), 0)
        self.assertEqual(session.looks(), 0)

    def check_changes(self, session, told, index, saying, edition):
        """Check what the making of an edition added and took."""
        added, taken = [], []
        if edition > 0:
            added, taken = helper.changed_plainly(*told.documents[edition - 1:edition + 1], told.pairs[edition], saying)
        self.assertEqual(session.changes(index, edition), (len(added), len(taken)))
        self.assertEqual([session.added(index, edition, at) for at in range(len(added))], added)
        self.assertEqual([session.taken(index, edition, at) for at in range(len(taken))], taken)
        for call, found in ((session.added, added), (session.taken, taken)):
            with self.assertRaises(BadNumber):
                call(index, edition, len(found))

    def go_on(self, session, told, rng):
        """Do an edit, or go back, by chance."""
        if rng.random() < 0.3:
            edition = rng.choice((0, len(told.documents) - 1, rng.randrange(len(told.documents))))
            self.assertEqual(session.back(edition), told.back(edition))
            return
        edit = helper.edit_by_chance(rng, told.documents[-1])
        if len(edited(told.documents[-1], edit)) < 10:
            self.assertEqual(session.edit(edit), told.edit(edit))

    def test_by_chance(self):
        rng = random.Random(111)
        for many in range(7):
            for _ in range(3):
                sayings = tuple(helper.saying_by_chance(rng) for _ in range(many))
                document = helper.document_by_chance(rng, rng.randrange(8))
                session, told = Session(document, sayings), Told(document)
                self.check(session, told, sayings, rng)
                for _ in range(8):
                    self.go_on(session, told, rng)
                    self.check(session, told, sayings, rng, [len(told.documents) - 1])
                self.check(session, told, sayings, rng)

    def test_told_sayings(self):
        rng = random.Random(112)
        sayings = tuple(read_saying(text) for text in TEXTS)
        document = helper.document_by_chance(rng, 6)
        session, told = Session(document, sayings), Told(document)
        for _ in range(20):
            self.go_on(session, told, rng)
        self.check(session, told, sayings, rng)

    def test_an_edit_that_leaves_the_document_equal(self):
        document = (("a", 0), ("a", 0), ("b", 0))
        sayings = (read_saying("x in a"), read_saying("x then y"))
        session, told = Session(document, sayings), Told(document)
        for number, edit in enumerate((("mark", 1, "a"), ("move", 0, (None, 1)), ("move", 2, (None, 2)))):
            self.assertEqual(session.edit(edit), number + 1)
            told.edit(edit)
            self.assertEqual(session.document(number + 1), document)
        self.check(session, told, sayings, random.Random(113))
        self.assertEqual((session.changes(0, 1), session.changes(0, 2), session.changes(1, 3)), ((0, 0), (1, 1), (1, 1)))

    def test_going_back(self):
        sayings = (read_saying("x over y"),)
        document = (("a", 0), ("b", 1))
        session, told = Session(document, sayings), Told(document)
        for edit in (("take", 1), ("put", (0, 0), (("c", 0), ("c", 1)))):
            self.assertEqual(session.edit(edit), told.edit(edit))
        for edition, newest in ((0, 3), (3, 4), (4, 5), (1, 6), (2, 7), (0, 8)):
            self.assertEqual((session.back(edition), told.back(edition)), (newest, newest))
            self.assertEqual(session.document(newest), session.document(edition))
        # No node is paired by a going back: all matches are new ones.
        self.assertEqual((session.changes(0, 4), session.changes(0, 6), session.changes(0, 7)), ((1, 1), (0, 1), (2, 0)))
        self.check(session, told, sayings, random.Random(114))
        self.assertEqual(session.edit(("mark", 0, "h")), told.edit(("mark", 0, "h")))
        self.check(session, told, sayings, random.Random(115))

    def test_the_first_edition(self):
        session = Session((("a", 0), ("b", 1)), (read_saying("x over y"),))
        self.assertEqual((session.changes(0, 0), session.count(0, 0)), ((0, 0), 1))
        for thing in (0, 1, -1, None, True):
            for call in (lambda: session.added(0, 0, thing), lambda: session.taken(0, 0, thing)):
                with self.assertRaises(BadNumber):
                    call()

    def test_no_sayings_and_six(self):
        session = Session((("a", 0),), ())
        self.assertEqual((session.edit(("mark", 0, "b")), session.back(0), session.document(2)), (1, 2, (("a", 0),)))
        for call in (lambda: session.count(0, 0), lambda: session.changes(0, 9)):
            with self.assertRaises(BadIndex):
                call()
        six = (read_saying("x top"),) * 6
        session = Session((("a", 0),), six)
        self.assertEqual([session.count(index, 0) for index in range(6)], [1] * 6)
        with self.assertRaises(BadSayings):
            Session((("a", 0),), six + six[:1])

    def test_bad_making(self):
        saying = read_saying("x top")
        great = read_saying(helper.eight_marks("and"))
        for thing in helper.NOT_DOCUMENTS:
            for call in (lambda: Session(thing, ()), lambda: Session(thing, None), lambda: Session(sayings=(great,), document=thing)):
                with self.assertRaises(BadDocument):
                    call()
        for thing in helper.ANY_OBJECTS + (None, 0, "", saying, [saying], (saying, None), (None,), ((),), ((saying,),),
                                           (great,) * 7, (great, 0)):
            with self.assertRaises(BadSayings):
                Session((), thing)
        for thing in helper.NOT_SAYINGS:
            with self.assertRaises(BadSayings):
                Session((), (saying, thing))
        for sayings in ((great,), (saying, great), (great, saying, great)):
            with self.assertRaises(TooMany):
                Session((), sayings)

    def test_wrong_things(self):
        session = Session((("a", 0), ("b", 1)), (read_saying("x over y"), read_saying("x top")))
        session.edit(("put", (0, 0), (("c", 0),)))
        wrong = helper.ANY_OBJECTS + (None, "", "0", (), (0,), -1, 2, 10 ** 30)
        calls = (session.match, session.number, session.behind, session.added, session.taken)
        for thing in wrong:
            for call in calls:
                with self.assertRaises(BadIndex):
                    call(thing, None, None)
                with self.assertRaises(BadEdition):
                    call(1, thing, None)
            for call in (session.count, session.changes):
                with self.assertRaises(BadIndex):
                    call(thing, None)
                with self.assertRaises(BadEdition):
                    call(1, thing)
            for call in (session.document, session.back):
                with self.assertRaises(BadEdition):
                    call(thing)
            for call in (session.number, session.behind):
                for nodes in (thing, (0, thing), (thing, 0)):
                    if nodes not in ((0, 2), (2, 0), (0, 10 ** 30), (10 ** 30, 0)):
                        with self.assertRaises(BadNodes):
                            call(0, 1, nodes)
            for call in (session.match, session.added, session.taken):
                with self.assertRaises(BadNumber):
                    call(0, 1, thing)
            with self.assertRaises(BadEdit):
                session.edit(thing)
        for edit in (("take", 3), ("mark", 0, "z"), ("move", 0, (0, 0))):
            with self.assertRaises(BadEdit):
                session.edit(edit)
        # Nothing has come of all this.
        self.assertEqual((session.edit(("mark", 0, "a")), session.count(0, 2), session.changes(0, 1)), (2, 2, (1, 0)))

    def test_by_name(self):
        session = Session(sayings=(read_saying("x over y"),), document=(("a", 0),))
        self.assertEqual(session.edit(edit=("put", (0, 0), (("b", 0),))), 1)
        told = (session.count(edition=1, saying=0), session.match(number=0, edition=1, saying=0),
                session.number(nodes=(0, 2), saying=0, edition=1), session.behind(nodes=(0, 0), edition=1, saying=0),
                session.added(number=0, saying=0, edition=1), session.changes(edition=1, saying=0),
                session.document(edition=0), session.back(edition=0), session.taken(edition=2, number=0, saying=0))
        self.assertEqual(told, (1, (0, 1), 1, (0, 1), (0, 1), (1, 0), (("a", 0),), 2, (0, 1)))

    def test_looks(self):
        session = Session(helper.row(100), (read_saying("x then y"),))
        self.assertGreaterEqual(session.looks(), 100)
        self.assertEqual(session.looks(), 0)
        for call in (lambda: session.count(0, 0), lambda: session.match(0, 0, 5), lambda: session.edit(("take", 5)),
                     lambda: session.changes(0, 1)):
            call()
            self.assertGreater(session.looks(), 0)
            self.assertEqual(session.looks(), 0)

    def test_copy(self):
        rng = random.Random(116)
        sayings = tuple(read_saying(text) for text in TEXTS[1:4])
        document = helper.document_by_chance(rng, 6)
        both = [(Session(document, sayings), Told(document))]
        for _ in range(6):
            self.go_on(*both[0], rng)
        session = both[0][0]
        session.looks()
        session.changes(0, len(both[0][1].documents) - 1)
        twin = session.copy()
        self.assertIsInstance(twin, Session)
        self.assertEqual(twin.looks(), 0)
        both.append((twin, both[0][1].copied()))
        for _ in range(10):
            self.go_on(*rng.choice(both), rng)
        for one, told in both:
            self.check(one, told, sayings, rng)
        session.looks()
        twin.count(0, 0)
        self.assertEqual(session.looks(), 0)


if __name__ == "__main__":
    unittest.main()
