"""Points 4, 5 and 7: documents, nodes and places."""

import unittest

import helper
from everymatch import documents
from everymatch.documents import breadth_of, children, depth_of, flipped, is_document, node_at, parents
from everymatch.documents import piece_of, place_of, sizes, write_document
from everymatch.errors import BadDocument, BadNode, BadPlace

# a(b c(d)) e
SMALL = (("a", 0), ("b", 1), ("c", 1), ("d", 2), ("e", 0))

# Each function of a document, and what stands behind the document among its arguments.
CALLS = (("parents", {}), ("children", {"node": True}), ("sizes", {}), ("place_of", {"node": None}),
         ("node_at", {"place": 0}), ("write_document", {}), ("piece_of", {"node": -1}), ("flipped", {}),
         ("depth_of", {}), ("breadth_of", {}))


class IsDocumentTest(unittest.TestCase):
    def test_documents(self):
        for thing in ((), SMALL, (("h", 0),), (("a", 0), ("b", 1), ("c", 2), ("d", 0), ("e", 1))):
            self.assertIs(is_document(thing), True, thing)
        self.assertIs(is_document(thing=SMALL), True)
        for thing in helper.all_documents(4, "bh"):
            self.assertIs(is_document(thing), True, thing)

    def test_depths_that_are_too_deep_or_not(self):
        for first in range(-1, 3):
            for second in range(-2, 4):
                right = first == 0 and 0 <= second <= 1
                self.assertIs(is_document((("a", first), ("b", second))), right, (first, second))

    def test_great_documents(self):
        for thing in helper.GREAT:
            self.assertIs(is_document(thing), True)
        for thing in helper.TOO_GREAT:
            self.assertIs(is_document(thing), False)

    def test_what_is_no_document(self):
        for thing in helper.NOT_DOCUMENTS:
            self.assertIs(is_document(thing), False, repr(thing)[:60])
        for mark in helper.NOT_MARKS:
            self.assertIs(is_document(((mark, 0),)), False, mark)
        for depth in helper.NOT_NODES + (None,):
            self.assertIs(is_document((("a", depth),)), False, depth)

    def test_bad_document_comes_ahead_of_all(self):
        for name, more in CALLS:
            function = getattr(documents, name)
            for thing in helper.NOT_DOCUMENTS:
                with self.assertRaises(BadDocument):
                    function(thing, *more.values())
                with self.assertRaises(BadDocument):
                    function(**more, document=thing)


class NodesTest(unittest.TestCase):
    def test_small(self):
        self.assertEqual(parents(SMALL), (None, 0, 0, 2, None))
        self.assertEqual(children(SMALL, None), (0, 4))
        self.assertEqual([children(SMALL, node) for node in range(5)], [(1, 2), (), (3,), (), ()])
        self.assertEqual(sizes(SMALL), (4, 1, 2, 1, 1))
        self.assertEqual([place_of(SMALL, node) for node in range(5)],
                         [(None, 0), (0, 0), (0, 1), (2, 0), (None, 1)])
        self.assertEqual(node_at(SMALL, (0, 1)), 2)
        self.assertEqual(piece_of(SMALL, 2), (("c", 0), ("d", 1)))

    def test_names_of_the_parameters(self):
        self.assertEqual(parents(document=SMALL), parents(SMALL))
        self.assertEqual(children(node=0, document=SMALL), (1, 2))
        self.assertEqual(sizes(document=SMALL), (4, 1, 2, 1, 1))
        self.assertEqual(place_of(node=3, document=SMALL), (2, 0))
        self.assertEqual(node_at(place=(2, 0), document=SMALL), 3)
        self.assertEqual(piece_of(node=4, document=SMALL), (("e", 0),))
        self.assertEqual(flipped(document=SMALL), flipped(SMALL))
        self.assertEqual((depth_of(document=SMALL), breadth_of(document=SMALL)), (3, 2))

    def test_without_nodes(self):
        self.assertEqual((parents(()), sizes(()), children((), None), flipped(())), ((), (), (), ()))
        self.assertEqual((depth_of(()), breadth_of(())), (0, 0))

    def test_all_small_documents(self):
        for document in helper.lettered(6):
            nodes = helper.walk(helper.to_trees(document))
            row_of = {node[0][0]: tuple(tree[0] for tree in node[0][2]) for node in nodes}
            above = {low: node for node, row in row_of.items() for low in row}
            self.assertEqual(parents(document), tuple(above.get(node) for node in range(len(document))))
            self.assertEqual(sizes(document), tuple(len(helper.walk([node[0]])) for node in nodes))
            self.assertEqual(children(document, None), tuple(node[0][0] for node in nodes if node[1] == 0))
            for node, (tree, _, _, which) in enumerate(nodes):
                self.assertEqual(children(document, node), row_of[node])
                place = (above.get(node), which)
                self.assertEqual(place_of(document, node), place)
                self.assertEqual(node_at(document, place), node)
                self.assertEqual(piece_of(document, node), helper.from_trees([tree])[0])

    def test_bad_node(self):
        for thing in helper.NOT_NODES + (5, 6):
            for function in (children, place_of, piece_of):
                with self.assertRaises(BadNode):
                    function(SMALL, thing)
                with self.assertRaises(BadNode):
                    function((), thing)
        for function in (place_of, piece_of):
            with self.assertRaises(BadNode):
                function(SMALL, None)
            with self.assertRaises(BadNode):
                function((), 0)

    def test_bad_place(self):
        wrong = [(None, 2), (0, 2), (1, 0), (2, 1), (4, 0), (5, 0), (3, 10 ** 30), (10 ** 30, 0), (-1, 0),
                 (None, -1), (0, -1), (None, None), (0, None), (True, 0), (False, 0), (0, True), (0, False),
                 (None, True), [None, 0], [0, 0], (), (0,), (None,), (0, 0, 0), None, 0, "", "00", (0, "0"),
                 ("0", 0), ((0,), 0), (0, (0,)), ([], 0), (0, []), (helper.Same(), 0), (0, helper.Same())]
        for place in wrong + list(helper.ANY_OBJECTS):
            with self.assertRaises(BadPlace, msg=place):
                node_at(SMALL, place)
        for place in ((None, 0), (0, 0)):
            with self.assertRaises(BadPlace):
                node_at((), place)


class FormsTest(unittest.TestCase):
    def test_flipped(self):
        self.assertEqual(write_document(flipped(SMALL)), "e a(c(d) b)")
        for document in helper.lettered(6):
            trees = helper.to_trees(document)
            for _, _, row, which in helper.walk(trees):
                if which == 0:
                    row.reverse()
            self.assertEqual(flipped(document), helper.from_trees(trees)[0])
            self.assertEqual(flipped(flipped(document)), document)

    def test_depth_and_breadth(self):
        self.assertEqual((depth_of(helper.chain(5)), breadth_of(helper.chain(5))), (5, 1))
        self.assertEqual((depth_of(helper.row(5)), breadth_of(helper.row(5))), (1, 5))
        self.assertEqual(breadth_of((("a", 0), ("b", 1), ("b", 1), ("b", 1), ("c", 0))), 3)
        self.assertEqual(breadth_of((("a", 0), ("b", 0), ("c", 0), ("d", 1), ("d", 1))), 3)
        self.assertEqual(depth_of((("a", 0), ("b", 1), ("c", 0))), 2)

    def test_great_documents(self):
        row, chain, comb = helper.GREAT
        last = 19999
        self.assertEqual(parents(row), (None,) * 20000)
        self.assertEqual(parents(chain), (None, *range(last)))
        self.assertEqual(children(row, None), tuple(range(20000)))
        self.assertEqual(children(chain, last), ())
        self.assertEqual(children(comb, 0), (1, 2))
        self.assertEqual(sizes(row), (1,) * 20000)
        self.assertEqual(sizes(chain), tuple(range(20000, 0, -1)))
        self.assertEqual(sizes(comb)[:4], (20000, 1, 19998, 1))
        self.assertEqual([place_of(one, last) for one in helper.GREAT], [(None, last), (last - 1, 0), (19998, 0)])
        for one in helper.GREAT:
            self.assertEqual(node_at(one, place_of(one, last)), last)
            self.assertEqual(piece_of(one, last), (("a", 0),))
            self.assertEqual(flipped(flipped(one)), one)
        self.assertEqual(len(piece_of(chain, 1)), last)
        self.assertEqual(piece_of(chain, 1), chain[:last])
        self.assertEqual([depth_of(one) for one in helper.GREAT], [1, 20000, 10001])
        self.assertEqual([breadth_of(one) for one in helper.GREAT], [20000, 1, 2])

    def test_equal_calls_return_equal_results(self):
        for function in (parents, sizes, flipped, depth_of, breadth_of, write_document, is_document):
            self.assertEqual(function(SMALL), function(SMALL))


if __name__ == "__main__":
    unittest.main()
