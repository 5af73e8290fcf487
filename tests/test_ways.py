"""Points 24, 31 and 33: tables of ways."""

import random
import time
import unittest
from itertools import product

import helper
from everymatch.documents import children, piece_of
from everymatch.errors import BadCount, BadDocument, BadMachine, BadNode
from everymatch.machines import is_machine, machine_of, once
from everymatch.sayings import read_saying
from everymatch.ways import node_ways, row_ways

NAMES = "pqrxz"


def laid_ways(names, many):
    """All (set, laying) of so many nodes in which each name of the set stands at one node, no other one anywhere."""
    for spots in product([None, *range(many)], repeat=names):
        lays = tuple(sum(2 ** at for at, spot in enumerate(spots) if spot == node) for node in range(many))
        yield sum(2 ** at for at, spot in enumerate(spots) if spot is not None), lays


def counted(entries):
    """The ascending tuple of the entries, each once, with their numbers."""
    return tuple(sorted((*entry, entries.count(entry)) for entry in set(entries)))


def row_plainly(machine, document, node, begin, end):
    """row_ways by laying each name at each node in all ways."""
    step = machine[3]
    pieces = [piece_of(document, child) for child in children(document, node)[begin:end]]
    below = tuple((mark, depth) for piece in pieces for mark, depth in piece)
    entries = []
    for names, lays in laid_ways(len(machine[0]), len(below)):
        states = helper.run_plainly(machine, below, lays)[0]
        tops = [states[at] for at, (_, depth) in enumerate(below) if depth == 0]
        for first in range(len(step)):
            state = first
            for by in tops:
                state = step[state][by]
            entries.append((first, state, names))
    return counted(entries)


def node_plainly(machine, document, node):
    """node_ways by laying each name at each node in all ways."""
    piece = piece_of(document, node)
    return counted([(helper.run_plainly(machine, piece, lays)[0][0], names)
                    for names, lays in laid_ways(len(machine[0]), len(piece))])


class WaysTest(unittest.TestCase):
    def check(self, machine, document):
        """Check all stretches and pieces of the document."""
        for node in [None, *range(len(document))]:
            many = len(children(document, node))
            for begin in range(many + 1):
                for end in range(begin, many + 1):
                    told = row_ways(machine, document, node, begin, end)
                    self.check_form(told, 4)
                    self.assertEqual(told, row_plainly(machine, document, node, begin, end))
            if node is not None:
                told = node_ways(machine, document, node)
                self.check_form(told, 3)
                self.assertEqual(told, node_plainly(machine, document, node))

    def check_form(self, told, length):
        """Check that it is an ascending tuple of tuples of integers, none of the numbers 0."""
        self.assertIs(type(told), tuple)
        self.assertEqual(list(told), sorted(set(told)))
        for entry in told:
            self.assertEqual((type(entry), len(entry)), (tuple, length))
            self.assertEqual({type(one) for one in entry}, {int})
            self.assertGreater(entry[-1], 0)

    def test_machines_by_chance(self):
        rng = random.Random(71)
        for names, most in ((0, 6), (1, 5), (2, 4), (3, 3), (4, 2), (5, 2)):
            documents = helper.all_documents(min(most, 3), "ab")[:40] + helper.lettered(most)
            for _ in range(6):
                machine = helper.by_chance(rng, rng.choice((1, 2, 3, 5)), NAMES[:names])
                self.assertTrue(is_machine(machine))
                for document in rng.sample(documents, min(5, len(documents))):
                    self.check(machine, document)

    def test_machines_of_sayings(self):
        rng = random.Random(72)
        for text in ("x over y", "(x then y and y in b)", "(x above y and x above z)", "some p p in c", "x is x",
                     "(x in a and some y (x above y and y in b))"):
            machine = machine_of(read_saying(text))
            for document in rng.sample(helper.lettered(5 if len(machine[0]) < 3 else 4), 8):
                self.check(machine, document)

    def test_once(self):
        for many in range(6):
            machine = once(tuple(NAMES[:many]))
            document = (("a", 0), ("b", 1), ("c", 0))
            self.check(machine, document)
            # Each name of a set stands at one of three nodes.
            whole = [entry for entry in row_ways(machine, document, None, 0, 2) if entry[0] == machine[2]]
            self.assertEqual(sorted((names, number) for _, _, names, number in whole),
                             [(names, 3 ** bin(names).count("1")) for names in range(2 ** many)])

    def test_an_empty_stretch(self):
        machine = helper.by_chance(random.Random(73), 7, "xy")
        document = (("a", 0), ("b", 1), ("b", 1), ("c", 0))
        for node, many in ((None, 2), (0, 2), (1, 0), (3, 0)):
            for at in range(many + 1):
                self.assertEqual(row_ways(machine, document, node, at, at),
                                 tuple((state, state, 0, 1) for state in range(7)))
        self.assertEqual(row_ways(machine, (), None, 0, 0), tuple((state, state, 0, 1) for state in range(7)))

    def test_all_states_are_told(self):
        # Also those to which nothing leads.
        machine = (("x",), ((2, 1),) * 8, 0, ((0, 1, 2, 3),) * 4, (1,))
        told = row_ways(machine, (("a", 0),), None, 0, 1)
        self.assertEqual(told, tuple(sorted([(q, 2, 0, 1) for q in range(4)] + [(q, 1, 1, 1) for q in range(4)])))
        self.assertEqual(node_ways(machine, (("a", 0),), 0), ((1, 1, 1), (2, 0, 1)))

    def test_two_lays_of_one_state(self):
        machine = (("x", "y"), ((0, 0, 0, 0),) * 8, 0, ((0,),), ())
        self.assertEqual(node_ways(machine, (("a", 0), ("b", 1)), 0),
                         ((0, 0, 1), (0, 1, 2), (0, 2, 2), (0, 3, 4)))
        self.assertEqual(row_ways(machine, helper.row(3), None, 1, 3),
                         ((0, 0, 0, 1), (0, 0, 1, 2), (0, 0, 2, 2), (0, 0, 3, 4)))

    def test_stretches_side_by_side(self):
        rng = random.Random(74)
        machine = helper.by_chance(rng, 6, "pqx")
        document = rng.choice(helper.lettered(7)) + helper.row(9) + helper.chain(4)
        many = len(children(document, None))
        for cut in range(many + 1):
            left, right = row_ways(machine, document, None, 0, cut), row_ways(machine, document, None, cut, many)
            found = {}
            for q, s, names, number in left:
                for t, r, more, times in right:
                    if s == t and names & more == 0:
                        found[q, r, names | more] = found.get((q, r, names | more), 0) + number * times
            self.assertEqual(row_ways(machine, document, None, 0, many),
                             tuple(sorted((*key, number) for key, number in found.items())))

    def test_a_child_and_its_piece(self):
        rng = random.Random(75)
        machine = helper.by_chance(rng, 5, "qz")
        document = helper.comb(30) + helper.row(3)
        for node in (None, 0, 2, 10):
            for which, child in enumerate(children(document, node)):
                found = {}
                for q in range(5):
                    for state, names, number in node_ways(machine, document, child):
                        key = (q, machine[3][q][state], names)
                        found[key] = found.get(key, 0) + number
                self.assertEqual(row_ways(machine, document, node, which, which + 1),
                                 tuple(sorted((*key, number) for key, number in found.items())))

    def test_great_documents(self):
        rng = random.Random(76)
        for names in range(6):
            machine = helper.by_chance(rng, 4, NAMES[:names])
            lone = once(tuple(NAMES[:names]))
            began = time.monotonic()
            for document in (helper.row(1000), helper.chain(1000)):
                width = len(children(document, None))
                found = row_ways(lone, document, None, 0, width)
                self.assertEqual([entry[2:] for entry in found if entry[0] == lone[2]][-1], (2 ** names - 1, 1000 ** names))
                found = row_ways(machine, document, None, 0, width)
                for first in range(4):
                    for many in range(2 ** names):
                        self.assertEqual(sum(entry[3] for entry in found if entry[0] == first and entry[2] == many),
                                         1000 ** bin(many).count("1"))
                found = node_ways(machine, document, 0)
                for many in range(2 ** names):
                    self.assertEqual(sum(entry[2] for entry in found if entry[1] == many),
                                     (1000 if width == 1 else 1) ** bin(many).count("1"))
            self.assertLess(time.monotonic() - began, 60)

    def test_by_name(self):
        machine = once(("x",))
        document = (("a", 0), ("b", 1))
        self.assertEqual(row_ways(end=1, begin=0, node=0, document=document, machine=machine),
                         row_ways(machine, document, 0, 0, 1))
        self.assertEqual(node_ways(node=1, document=document, machine=machine), node_ways(machine, document, 1))

    def test_errors(self):
        machine = once(("x",))
        document = (("a", 0), ("b", 1), ("c", 1), ("d", 0))
        for thing in helper.ANY_OBJECTS + (None, (), machine[:4], (0, *machine[1:]), machine + ((),)):
            for call in (lambda: row_ways(thing, None, -1, -1, -1), lambda: node_ways(thing, None, -1)):
                with self.assertRaises(BadMachine):
                    call()
        for thing in helper.NOT_DOCUMENTS:
            for call in (lambda: row_ways(machine, thing, -1, -1, -1), lambda: node_ways(machine, thing, -1)):
                with self.assertRaises(BadDocument):
                    call()
        for thing in helper.NOT_NODES + (4, None):
            with self.assertRaises(BadNode):
                node_ways(machine, document, thing)
            if thing is not None:
                with self.assertRaises(BadNode):
                    row_ways(machine, document, thing, -1, -1)
        with self.assertRaises(BadNode):
            row_ways(machine, (), 0, 0, 0)
        for node, many in ((None, 2), (0, 2), (1, 0), (3, 0)):
            for begin in range(-1, many + 2):
                for end in range(-1, many + 2):
                    if not 0 <= begin <= end <= many:
                        with self.assertRaises(BadCount):
                            row_ways(machine, document, node, begin, end)
        for thing in helper.ANY_OBJECTS + (None, "0", (0,), -1, 10 ** 30):
            for call in (lambda: row_ways(machine, document, 0, thing, 2), lambda: row_ways(machine, document, 0, 0, thing)):
                with self.assertRaises(BadCount):
                    call()


if __name__ == "__main__":
    unittest.main()
