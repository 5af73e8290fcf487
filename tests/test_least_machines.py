"""Point 18: least machines and their sizes."""

import random
import time
import unittest

import helper
from everymatch.errors import TooMany
from everymatch.machines import is_machine, least, opposite, size

DOCUMENTS = helper.lettered(4) + helper.all_documents(2, "ab")


def ring(many, good=(0,)):
    """A machine that counts the nodes at the top around; each of its states is a node's, too."""
    return ((), ((0,),) * 8, 0, helper.steps_of(many, lambda q, r: (q + 1) % many), good)


def machines_by_chance(seed, many):
    rng = random.Random(seed)
    for _ in range(many):
        yield rng, helper.by_chance(rng, rng.choice((1, 2, 3, 4, 6, 9)), rng.choice(("", "p", "pz", "xyz")))


class LeastTest(unittest.TestCase):
    def test_one_state(self):
        # The one state is a top's and a node's: it is kept as two.
        nothing = ((), ((0,),) * 8, 0, ((0,),), ())
        self.assertEqual(least(nothing), ((), ((1,),) * 8, 0, ((0, 0), (0, 1)), ()))
        everything = ((), ((0,),) * 8, 0, ((0,),), (0,))
        self.assertEqual(least(machine=everything), ((), ((1,),) * 8, 0, ((0, 0), (0, 1)), (0,)))
        self.assertEqual(least(helper.named(nothing, "px")), (("p", "x"), ((1,) * 4,) * 8, 0, ((0, 0), (0, 1)), ()))

    def test_numbers_go_by_marks_then_by_lays(self):
        # Each node's state is its own: d first, then c with the name, and so on; the last child alone is looked at.
        begin = tuple((3 - mark, 7 - mark) if mark < 4 else (0, 0) for mark in range(8))
        machine = (("p",), begin, 8, helper.steps_of(9, lambda q, r: r if q == 8 else q), (1,))
        # Told apart are 1 and the others, by the top's steps to one that is good.
        made = least(machine)
        self.assertEqual(made, helper.least_plainly(machine))
        self.assertEqual(made[1], ((1, 1), (1, 1), (2, 1), (1, 1), (1, 1), (1, 1), (1, 1), (1, 1)))
        self.assertEqual(made[4], (4,))

    def test_numbers_go_by_the_greater_one_of_a_pair(self):
        # A node of two states begins; a third and a fourth one are found by pairs, the top's by others.
        steps = ((0, 5, 5, 5, 6, 0, 0), (0, 4, 3, 1, 1, 0, 0), (0, 2, 2, 2, 3, 0, 0), (0, 3, 3, 3, 3, 0, 0),
                 (0, 4, 4, 1, 2, 0, 0), (0, 6, 5, 0, 0, 0, 0), (0, 0, 6, 6, 5, 0, 0))
        machine = ((), ((1,), (2,)) * 4, 0, steps, (5,))
        made = least(machine)
        self.assertEqual(made, helper.least_plainly(machine))
        # top 0; nodes 1 and 2; (0, 1): 5 is 3; (1, 1): 4 is 4, (1, 2): 3 is 5; and so on.
        self.assertEqual(made[:3], ((), ((1,), (2,)) * 4, 0))
        self.assertEqual((made[3][0][1], made[3][1][1], made[3][0][2], made[3][1][2]), (3, 4, 3, 5))
        self.assertEqual(made[4], (3,))

    def test_by_chance(self):
        for rng, machine in machines_by_chance(31, 400):
            made = least(machine)
            self.assertTrue(is_machine(made))
            self.assertEqual(made, helper.least_plainly(machine))
            self.assertEqual(size(machine), len(made[3]))
            self.assertEqual(least(made), made)
            self.assertEqual(size(machine=made), len(made[3]))
            for document in rng.sample(DOCUMENTS, 3):
                for laying in helper.layings(len(document), len(machine[0]))[:200]:
                    self.assertEqual(helper.lets_plainly(made, document, laying),
                                     helper.lets_plainly(machine, document, laying))

    def test_states_numbered_anew_and_states_that_are_never_come_to(self):
        for rng, machine in machines_by_chance(32, 200):
            for more in (0, 1, 3):
                self.assertEqual(least(helper.shuffled(rng, machine, more)), least(machine))
            made = least(machine)
            self.assertEqual(least(helper.shuffled(rng, made, 2)), made)

    def test_states_that_are_neither(self):
        # 2 and 3 are never come to, though the table leads from them.
        machine = ((), ((1,),) * 8, 0, ((0, 0, 1, 2), (1, 1, 3, 3), (1, 2, 3, 0), (0, 1, 2, 3)), (0, 3))
        self.assertEqual(least(machine), ((), ((1,),) * 8, 0, ((0, 0), (0, 1)), (0,)))
        self.assertEqual(size(machine), 2)

    def test_good_holds_tops_states_alone(self):
        machine = ((), ((1,),) * 8, 0, ((2, 2, 2), (1, 1, 1), (2, 2, 2)), (1, 2))
        self.assertEqual(least(machine), ((), ((1,),) * 8, 0, ((0, 2, 0), (0, 1, 0), (0, 2, 0)), (2,)))

    def test_a_state_that_is_a_tops_and_a_nodes(self):
        # Tops count around three; nodes do so, too, which nothing tells.
        made = least(ring(3))
        self.assertEqual(made, ((), ((1,),) * 8, 0, ((0, 2, 0, 0), (0, 1, 0, 0), (0, 3, 0, 0), (0, 0, 0, 0)), (0,)))

    def test_the_same_layings_have_the_same_least_machine(self):
        rng = random.Random(33)
        documents = helper.all_documents(2, "abcdefgh") + helper.all_documents(3, "ah")
        found = {}
        for _ in range(300):
            machine = least(helper.by_chance(rng, rng.randrange(1, 4), "p"))
            told = tuple(helper.lets_plainly(machine, document, laying) for document in documents
                         for laying in helper.layings(len(document), 1))
            found.setdefault(machine, []).append(told)
        self.assertGreater(len(found), 50)
        for rows in found.values():
            self.assertEqual(len(set(rows)), 1)
        # Of so few states, unlike ones are told apart by small documents, but for a few.
        self.assertGreater(len({rows[0] for rows in found.values()}), len(found) * 9 // 10)


class SizeTest(unittest.TestCase):
    def test_three_hundred_states(self):
        for many in range(295, 301):
            machine = ring(many)
            self.assertEqual(size(machine), many + 1)
            if many < 300:
                self.assertEqual(len(least(machine)[3]), many + 1)
            else:
                with self.assertRaises(TooMany):
                    least(machine)

    def test_beyond_three_hundred(self):
        below = ((), ((1,),) * 8, 0, helper.steps_of(300, lambda q, r: (q + r) % 300), (0,))
        self.assertEqual(size(below), 600)
        with self.assertRaises(TooMany):
            least(below)
        below = ((), ((1,),) * 8, 0, helper.steps_of(150, lambda q, r: (q + r) % 150), (0,))
        self.assertEqual(size(below), 300)
        self.assertEqual(len(least(below)[3]), 300)
        self.assertEqual(size(((), ((1,),) * 8, 0, helper.steps_of(151, lambda q, r: (q + r) % 151), (0,))), 302)

    def test_great_machines_are_answered_soon(self):
        rng = random.Random(34)
        tables = (lambda q, r: min(q + 1, 299), lambda q, r: (q + r) % 300, lambda q, r: min(max(q, r) + 1, 299),
                  lambda q, r: min(q + r, 299), lambda q, r: rng.randrange(300), lambda q, r: (2 * q + r) % 300,
                  lambda q, r: min(r + 1, 299) if q == 0 else 299, lambda q, r: max(q - 1, 0) if r < 150 else q,
                  lambda q, r: q * 2 % 300 if r % 2 else q // 2, lambda q, r: q, lambda q, r: r)
        for number, step in enumerate(tables):
            names = "pqrs"[:number % 5]
            rows = helper.steps_of(300, step)
            good = tuple(range(0, 300, 7)) if number % 2 else (299,)
            begin = tuple(tuple(rng.randrange(300) for _ in range(2 ** len(names))) for _ in range(8))
            machine = (tuple(names), begin, 0, rows, good)
            began = time.monotonic()
            answers = [size(machine)]
            for function in (least, opposite):
                try:
                    answers.append(len(function(machine)[3]))
                except TooMany:
                    answers.append(answers[0])
                    self.assertGreater(answers[0], 300)
            self.assertEqual(len(set(answers)), 1)
            self.assertLess(time.monotonic() - began, 15)


if __name__ == "__main__":
    unittest.main()
