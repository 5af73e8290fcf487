"""Point 17: machines made of others."""

import random
import unittest

import helper
from everymatch.errors import BadMachine, BadMachines, BadName, BadNames, TooMany
from everymatch.machines import is_machine, joined_both, joined_either, least, lets, once, opposite, size, with_name
from everymatch.machines import without

DOCUMENTS = helper.all_documents(2, "ab") + helper.lettered(3)
ONE = ((), ((0,),) * 8, 0, ((0,),), ())
FEW = helper.counter(3)


def pairs_by_chance(seed, many):
    """So many pairs of small machines of the same names."""
    rng = random.Random(seed)
    for _ in range(many):
        names = rng.choice(("", "p", "pz", "xyz"))
        yield helper.by_chance(rng, rng.randrange(1, 5), names), helper.by_chance(rng, rng.randrange(1, 5), names)


def documents_for(machine):
    """Documents of which all layings can be tried soon."""
    return DOCUMENTS if len(machine[0]) < 3 else DOCUMENTS[:12]


class MachineTest(unittest.TestCase):
    def right(self, machine, names):
        """Check that it is a least machine of these names."""
        self.assertTrue(is_machine(machine))
        self.assertEqual(machine[0], tuple(names))
        self.assertEqual(machine, helper.least_plainly(machine))


class JoinedTest(MachineTest):
    def test_all_small_documents(self):
        for machine, other in pairs_by_chance(21, 60):
            both, either = joined_both(machine, other), joined_either(machine, other)
            self.right(both, machine[0])
            self.right(either, machine[0])
            for document in documents_for(machine):
                for laying in helper.layings(len(document), len(machine[0])):
                    answers = [helper.lets_plainly(one, document, laying) for one in (machine, other)]
                    self.assertEqual(lets(both, document, laying), all(answers))
                    self.assertEqual(lets(either, document, laying), any(answers))
            self.assertEqual(joined_both(other=machine, machine=other), both)
            self.assertEqual(joined_either(other=machine, machine=other), either)
            self.assertEqual(joined_both(machine, machine), least(machine))
            self.assertEqual(joined_either(machine, machine), least(machine))
            self.assertEqual(opposite(joined_either(opposite(machine), opposite(other))), both)

    def test_machines_of_unlike_names(self):
        machines = [helper.named(FEW, names) for names in ("", "p", "q", "pq", "pr", "pqr", "pqrst")]
        for function in (joined_both, joined_either):
            for machine in machines:
                for other in machines:
                    if machine[0] == other[0]:
                        self.assertEqual(function(machine, other), least(machine))
                    else:
                        with self.assertRaises(BadMachines):
                            function(machine, other)

    def test_bad_machines(self):
        for function in (joined_both, joined_either):
            for thing in helper.ANY_OBJECTS + (None, 0, "", (), ONE[:4], list(ONE), ((), ((0,),) * 8, 0, ((1,),), ())):
                for machine in (FEW, helper.named(FEW, "p")):
                    with self.assertRaises(BadMachine):
                        function(machine, thing)
                    with self.assertRaises(BadMachine):
                        function(thing, machine)

    def test_three_hundred_states(self):
        # Wheels of sizes without a common divisor turn together as one of their product; nodes have one state more.
        for first, second in ((13, 23), (1, 299), (7, 42), (6, 42)):
            for function in (joined_both, joined_either):
                made = function(helper.wheel(first), helper.wheel(second))
                self.assertEqual(len(made[3]), {13: 300, 1: 300, 7: 43, 6: 43}[first] if function is joined_both
                                 else {13: 300, 1: 2, 7: 8, 6: 7}[first])
        for first, second in ((12, 25), (7, 43), (17, 19), (23, 26)):
            for function in (joined_both, joined_either):
                with self.assertRaises(TooMany):
                    function(helper.wheel(first), helper.wheel(second))

    def test_six_hundred_pairs_are_no_reason_to_refuse(self):
        # A count that goes around by three, behind 296 others, beside a wheel: 599 pairs of tops' states, one of nodes'.
        steps = helper.steps_of(300, lambda q, r: 296 if q == 298 else min(q + 1, 299))
        for good, more in (((), 0), ((0,), 1), ((0, 1, 2), 3)):
            machine, wheel = ((), ((299,),) * 8, 0, steps, good), helper.wheel(101)
            self.assertEqual(len(joined_both(machine, wheel)[3]), 2 + (more > 0))
            self.assertEqual(len(joined_either(machine, wheel[:4] + ((),))[3]), 2 + more)


class OppositeTest(MachineTest):
    def test_all_small_documents(self):
        for machine, _ in pairs_by_chance(22, 60):
            other = opposite(machine=machine)
            self.right(other, machine[0])
            self.assertEqual(opposite(other), least(machine))
            for document in documents_for(machine):
                for laying in helper.layings(len(document), len(machine[0])):
                    self.assertNotEqual(lets(other, document, laying), lets(machine, document, laying))

    def test_three_hundred_states(self):
        for many, right in ((298, True), (299, True)):
            self.assertEqual(len(opposite(helper.wheel(many))[3]), many + 1)
        # Each of these states is a top's, one of them a node's too.
        ring = ((), ((0,),) * 8, 0, helper.steps_of(300, lambda q, r: (q + 1) % 300), (0,))
        with self.assertRaises(TooMany):
            opposite(ring)
        ring = ((), ((0,),) * 8, 0, helper.steps_of(299, lambda q, r: (q + 1) % 299), (0,))
        self.assertEqual(len(opposite(ring)[3]), 300)


class WithoutTest(MachineTest):
    def test_all_small_documents(self):
        for machine, _ in pairs_by_chance(23, 120):
            names = machine[0]
            for at, name in enumerate(names):
                made = without(machine, name)
                self.right(made, names[:at] + names[at + 1:])
                self.assertEqual(without(name=name, machine=machine), made)
                for document in documents_for(machine):
                    found = {}
                    for laying in helper.layings(len(document), len(names)):
                        left = tuple(lay % 2 ** at + lay // 2 ** (at + 1) * 2 ** at for lay in laying)
                        found[left] = found.get(left, False) or helper.lets_plainly(machine, document, laying)
                    for laying in helper.layings(len(document), len(names) - 1):
                        self.assertEqual(lets(made, document, laying), found[laying])

    def test_more_than_one_place(self):
        # p stands at two nodes just; without p: there are two nodes.
        machine = (("p",), ((0, 1),) * 8, 0, helper.steps_of(4, lambda q, r: min(q + r, 3)), (2,))
        made = without(machine, "p")
        for document in DOCUMENTS:
            self.assertIs(lets(made, document, (0,) * len(document)), len(document) > 1)

    def test_names_that_it_has_not(self):
        for names in ("", "q", "qrxyz"):
            machine = helper.named(FEW, names)
            for name in helper.NOT_NAMES + ("p", "w", ("q",), "qr", names + "z", machine[0]):
                with self.assertRaises(BadName):
                    without(machine, name)
            for name in names:
                self.assertEqual(without(machine, name), least(helper.named(FEW, names.replace(name, ""))))

    def test_three_hundred_states(self):
        for many, right in ((299, True), (300, False)):
            ring = ((), ((0,),) * 8, 0, helper.steps_of(many, lambda q, r: (q + 1) % many), (0,))
            if right:
                self.assertEqual(len(without(helper.named(ring, "p"), "p")[3]), 300)
            else:
                with self.assertRaises(TooMany):
                    without(helper.named(ring, "p"), "p")

    def test_great_sets_are_few(self):
        # The sets are those of the states from 0 to some number of nodes: each of them is let in some way.
        steps = helper.steps_of(300, lambda q, r: min(q + r, 299))
        machine = (("p",), ((0, 1),) * 8, 0, steps, (0, 299))
        self.assertEqual(without(machine, "p"), least(((), ((0,),) * 8, 0, ((0,),), (0,))))


class WithNameTest(MachineTest):
    def test_all_small_documents(self):
        for machine, _ in pairs_by_chance(24, 60):
            for name in "pqxz":
                if name in machine[0]:
                    continue
                made = with_name(machine, name)
                names = tuple(sorted(machine[0] + (name,)))
                at = names.index(name)
                self.right(made, names)
                self.assertEqual(with_name(name=name, machine=machine), made)
                self.assertEqual(without(made, name), least(machine))
                for document in documents_for(made)[:15]:
                    for laying in helper.layings(len(document), len(names)):
                        left = tuple(lay % 2 ** at + lay // 2 ** (at + 1) * 2 ** at for lay in laying)
                        self.assertEqual(lets(made, document, laying), helper.lets_plainly(machine, document, left))

    def test_names_that_cannot_be_taken(self):
        for names in ("", "q", "qrxy", "qrxyz"):
            machine = helper.named(FEW, names)
            for name in helper.NOT_NAMES + tuple(names):
                with self.assertRaises(BadName):
                    with_name(machine, name)
            for name in "pstuvw":
                if len(names) < 5:
                    more = tuple(sorted(names + name))
                    self.assertEqual(with_name(machine, name), least(helper.named(FEW, more)))
                else:
                    with self.assertRaises(BadName):
                        with_name(machine, name)

    def test_three_hundred_states(self):
        self.assertEqual(len(with_name(helper.wheel(299), "p")[3]), 300)
        ring = ((), ((0,),) * 8, 0, helper.steps_of(300, lambda q, r: (q + 1) % 300), (0,))
        with self.assertRaises(TooMany):
            with_name(ring, "p")


class OnceTest(MachineTest):
    def test_all_small_documents(self):
        for names in ("", "p", "z", "xy", "prs", "pqxyz"):
            machine = once(names=tuple(names))
            self.right(machine, names)
            for document in helper.lettered(4) if len(names) < 3 else helper.lettered(3 if len(names) < 4 else 2):
                for laying in helper.layings(len(document), len(names)):
                    counts = [sum(lay >> at & 1 for lay in laying) for at in range(len(names))]
                    self.assertIs(lets(machine, document, laying), all(count == 1 for count in counts))

    def test_no_names(self):
        self.assertEqual(once(()), ((), ((1,),) * 8, 0, ((0, 0), (0, 1)), (0,)))

    def test_sizes(self):
        for many in range(1, 6):
            self.assertEqual(size(once(tuple("pqrst"[:many]))), 2 * (2 ** many + 1))

    def test_bad_names(self):
        for name in helper.NOT_NAMES:
            with self.assertRaises(BadNames):
                once((name,))
            with self.assertRaises(BadNames):
                once(("x", name))
        for names in helper.ANY_OBJECTS + (None, 0, "", "x", "xy", ["x"], ("y", "x"), ("x", "x"), tuple("pqrstu"),
                                           (("x",),)):
            with self.assertRaises(BadNames):
                once(names)


if __name__ == "__main__":
    unittest.main()
