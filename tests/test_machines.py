"""Points 15 and 16: machines, and what they tell of a document."""

import random
import unittest
from itertools import product

import helper
from everymatch import machines
from everymatch.errors import BadDocument, BadLaying, BadMachine, BadNodes
from everymatch.machines import is_machine, lets, state_of, states_of, takes

# The document's state is the greatest one of its nodes: 1 where p stands alone, 2 where no name stands at e to h.
SMALL = (("p", "y"), ((0, 1, 0, 0),) * 4 + ((2, 1, 0, 0),) * 4, 0, ((0, 1, 2), (1, 1, 2), (2, 2, 2)), (1, 2))
ONE = ((), ((0,),) * 8, 0, ((0,),), ())

# Each function of a machine, and what stands behind the machine among its arguments.
CALLS = (("state_of", {"document": 0, "laying": 0}), ("states_of", {"document": 0, "laying": 0}),
         ("lets", {"document": 0, "laying": 0}), ("takes", {"document": 0, "nodes": 0}),
         ("joined_both", {"other": 0}), ("joined_either", {"other": 0}), ("opposite", {}), ("without", {"name": 0}),
         ("with_name", {"name": 0}), ("least", {}), ("size", {}))

NOT_MACHINES = helper.ANY_OBJECTS + helper.SAYINGS + (
    None, 0, "", (), ONE[:4], ONE + ((),), list(ONE), (ONE,), ((), (), 0, (), ()), (None,) * 5, (True,) * 5,
    (helper.Same(),) * 5)


def with_entry(machine, at, entry):
    return machine[:at] + (entry,) + machine[at + 1:]


class IsMachineTest(unittest.TestCase):
    def check(self, thing, right):
        self.assertIs(is_machine(thing), right, repr(thing)[:300])

    def test_machines(self):
        for machine in (SMALL, ONE, helper.counter(3), helper.wheel(299)):
            self.check(machine, True)
        self.assertIs(is_machine(thing=ONE), True)
        rng = random.Random(15)
        for names in ("", "p", "pz", "pqr", "qsuw", "pqrxz", "vwxyz"):
            for many in (1, 2, 7):
                machine = helper.by_chance(rng, many, names)
                self.check(machine, True)
                self.check(with_entry(machine, 4, tuple(range(many))), True)
                self.check(with_entry(machine, 4, ()), True)

    def test_what_is_no_machine(self):
        for thing in NOT_MACHINES:
            self.check(thing, False)

    def test_lists_for_tuples_at_any_depth(self):
        for machine in (SMALL, ONE, with_entry(ONE, 4, (0,))):
            worse = helper.changed_entries(machine, lambda one: [list(one)] if isinstance(one, tuple) else [])
            self.assertGreaterEqual(len(worse), 14)
            for other in worse:
                self.check(other, False)

    def test_names(self):
        for names in (("p", "p"), ("y", "p"), ("p",), ("p", "y", "z"), (), "py", None, ("p", "a"), ("p", None),
                      ("p", 0), ("p", "yz"), (("p",), "y")):
            self.check(with_entry(SMALL, 0, names), False)
        for name in helper.NOT_NAMES:
            self.check(helper.named(ONE, (name,)), False)
        self.check(helper.named(ONE, "pqrst"), True)
        self.check(helper.named(ONE, "pqrstu"), False)
        self.check(helper.named(ONE, "pqrts"), False)

    def test_states(self):
        for state in helper.NOT_NODES + (None, 3, 4, 300, "1"):
            self.check(with_entry(SMALL, 2, state), False)
            self.check(with_entry(SMALL, 4, (state,)), False)
            self.check(with_entry(SMALL, 4, (0, 1, state)), False)
            for at in range(3):
                row = with_entry(SMALL[3][at], at, state)
                self.check(with_entry(SMALL, 3, with_entry(SMALL[3], at, row)), False)
            for at in range(8):
                row = with_entry(SMALL[1][at], at % 4, state)
                self.check(with_entry(SMALL, 1, with_entry(SMALL[1], at, row)), False)
        for state in range(3):
            self.check(with_entry(SMALL, 2, state), True)

    def test_begin(self):
        row = (0, 1, 2, 0)
        for begin in ((row,) * 7, (row,) * 9, (), (row[:3],) * 8, (row + (0,),) * 8, ((0,),) * 8, (row,) * 7 + (row[1:],),
                      (row + (1,),) + (row,) * 7, 0, None):
            self.check(with_entry(SMALL, 1, begin), False)
        self.check(with_entry(SMALL, 1, (row,) * 8), True)

    def test_step(self):
        step = SMALL[3]
        for other in (step[:2], step + ((0, 0, 0),), (), step[:2] + ((2, 2),), step[:2] + ((2, 2, 2, 2),), ((),) * 3,
                      None, 0, step[0], tuple(row[:2] for row in step)):
            self.check(with_entry(SMALL, 3, other), False)

    def test_good(self):
        for good in ((1, 0), (0, 0), (0, 2, 1), (0, 1, 1), (2, 2), None, 0, ((0,),), range(2)):
            self.check(with_entry(SMALL, 4, good), False)
        for good in ((), (0,), (0, 1), (0, 2), (0, 1, 2)):
            self.check(with_entry(SMALL, 4, good), True)

    def test_three_hundred_states(self):
        for many, right in ((299, True), (300, True), (301, False), (302, False)):
            machine = ((), ((many - 1,),) * 8, many - 1, helper.steps_of(many, max), (0, many - 1))
            self.check(machine, right)
        step = list(helper.steps_of(300, max))
        step[299] = step[299][:299] + (300,)
        self.check(((), ((0,),) * 8, 0, tuple(step), ()), False)
        step[299] = step[299][:299] + (True,)
        self.check(((), ((0,),) * 8, 0, tuple(step), ()), False)

    def test_bad_machine_comes_ahead_of_all(self):
        wrong = NOT_MACHINES + (with_entry(SMALL, 4, (2, 1)), with_entry(SMALL, 2, True), with_entry(SMALL, 1, ()))
        for name, more in CALLS:
            function = getattr(machines, name)
            for thing in wrong:
                with self.assertRaises(BadMachine):
                    function(thing, *more.values())
                with self.assertRaises(BadMachine):
                    function(**more, machine=thing)


class RunTest(unittest.TestCase):
    def check(self, machine, document, laying):
        states, whole = helper.run_plainly(machine, document, laying)
        self.assertEqual(states_of(machine, document, laying), states)
        self.assertEqual(state_of(machine, document, laying), whole)
        self.assertIs(lets(machine, document, laying), whole in machine[4])

    def test_small(self):
        document = (("a", 0), ("b", 1), ("c", 1), ("e", 2), ("f", 0))
        laying = (0, 1, 0, 3, 1)
        self.assertEqual(states_of(SMALL, document, laying), (1, 1, 0, 0, 1))
        self.assertEqual(states_of(laying=laying, document=document, machine=SMALL), (1, 1, 0, 0, 1))
        self.assertEqual(state_of(laying=laying, document=document, machine=SMALL), 1)
        self.assertIs(lets(laying=laying, document=document, machine=SMALL), True)
        self.assertIs(lets(SMALL, (), ()), False)
        self.assertIs(lets(SMALL, (("e", 0),), (0,)), True)
        self.assertIs(lets(SMALL, (("a", 0),), (2,)), False)

    def test_children_step_from_the_first_to_the_last(self):
        last = ((), tuple((mark,) for mark in range(8)), 7, helper.steps_of(8, lambda q, r: r), (2,))
        first = last[:3] + (helper.steps_of(8, lambda q, r: r if q == 7 else q), (2,))
        document = (("h", 0), ("b", 1), ("c", 1), ("d", 1), ("h", 0), ("a", 0))
        self.assertEqual(states_of(last, document, (0,) * 6), (3, 1, 2, 3, 7, 0))
        self.assertEqual(states_of(first, document, (0,) * 6), (1, 1, 2, 3, 7, 0))
        self.assertEqual([state_of(machine, document, (0,) * 6) for machine in (first, last)], [1, 0])

    def test_all_small_documents(self):
        rng = random.Random(16)
        for document in helper.lettered(4):
            for names in ("", "p", "xy"):
                machine = helper.by_chance(rng, rng.randrange(1, 6), names)
                for laying in helper.layings(len(document), len(names)):
                    self.check(machine, document, laying)

    def test_the_document_without_nodes(self):
        for machine in (SMALL, ONE, helper.counter(4), with_entry(ONE, 4, (0,)), with_entry(SMALL, 2, 2)):
            self.assertEqual(states_of(machine, (), ()), ())
            self.assertEqual(state_of(machine, (), ()), machine[2])
            self.assertIs(lets(machine, (), ()), machine[2] in machine[4])

    def test_great_documents(self):
        many = 300
        below = ((), ((1,),) * 8, 0, helper.steps_of(many, lambda q, r: (q + r) % many), (20000 % many,))
        for document in helper.GREAT:
            sizes = states_of(below, document, (0,) * 20000)
            self.assertEqual(sizes[-1], 1)
            self.assertEqual(state_of(below, document, (0,) * 20000), 20000 % many)
            self.assertIs(lets(below, document, (0,) * 20000), True)
            self.assertIs(takes(below, document, ()), True)
            laying = (0,) * 19999 + (1,)
            self.assertEqual(state_of(SMALL, document, laying), 1)
            self.assertIs(takes(SMALL, document, (19999, 5)), True)
            self.assertIs(takes(SMALL, document, (5, 5)), False)
        self.assertEqual(states_of(below, helper.chain(20000), (0,) * 20000)[:3], (200, 199, 198))

    def test_bad_layings(self):
        document = (("a", 0), ("b", 1))
        for function in (state_of, states_of, lets):
            for laying in helper.ANY_OBJECTS + (None, 0, "00", (), (0,), (0, 0, 0), [0, 0], ((0, 0),), ((0,), (0,))):
                with self.assertRaises(BadLaying):
                    function(SMALL, document, laying)
            for lay in helper.NOT_NODES + (None, 4, 5):
                for laying in ((lay, 0), (0, lay)):
                    with self.assertRaises(BadLaying):
                        function(SMALL, document, laying)
            for lay in range(4):
                function(SMALL, document, (lay, 3 - lay))
            with self.assertRaises(BadLaying):
                function(ONE, document, (0, 1))
            with self.assertRaises(BadLaying):
                function(ONE, (), (0,))

    def test_bad_documents_come_ahead(self):
        for document in helper.NOT_DOCUMENTS:
            for function in (state_of, states_of, lets, takes):
                with self.assertRaises(BadDocument):
                    function(SMALL, document, None)


class TakesTest(unittest.TestCase):
    def test_where_the_names_stand(self):
        rng = random.Random(17)
        for document in helper.lettered(3):
            for names in ("", "p", "xy", "pqz"):
                machine = helper.by_chance(rng, 4, names)
                for nodes in product(range(len(document)), repeat=len(names)):
                    laying = [sum(2 ** at for at, one in enumerate(nodes) if one == node)
                              for node in range(len(document))]
                    want = helper.lets_plainly(machine, document, laying)
                    self.assertIs(takes(machine, document, nodes), want)
                    self.assertIs(takes(nodes=nodes, machine=machine, document=document), want)

    def test_bad_nodes(self):
        document = (("a", 0), ("b", 1))
        for node in helper.NOT_NODES + (None, 2, 3):
            for nodes in ((node, 0), (1, node), (node, node)):
                with self.assertRaises(BadNodes):
                    takes(SMALL, document, nodes)
        for nodes in helper.ANY_OBJECTS + (None, 0, "01", (), (0,), (0, 0, 0), [0, 1], ((0, 1),)):
            with self.assertRaises(BadNodes):
                takes(SMALL, document, nodes)
        with self.assertRaises(BadNodes):
            takes(ONE, document, (0,))
        with self.assertRaises(BadNodes):
            takes(SMALL, (), (0, 0))


if __name__ == "__main__":
    unittest.main()
