"""Point 6: texts of documents, both ways."""

import unittest
from itertools import product

import helper
from everymatch.documents import read_document, write_document
from everymatch.errors import BadText

SIGNS = "ah() i"


def told(trees):
    return " ".join(mark + (f"({told(row)})" if row else "") for _, mark, row in trees)


def right_texts(most):
    """All texts of documents of at most so many nodes, by the second way."""
    return {told(helper.to_trees(document)) for document in helper.all_documents(most, "ah")}


def place_of_error(text):
    try:
        read_document(text)
    except BadText as error:
        return error.place
    return None


class WriteTest(unittest.TestCase):
    def test_examples(self):
        self.assertEqual(write_document(()), "")
        self.assertEqual(write_document((("h", 0),)), "h")
        document = (("a", 0), ("b", 1), ("c", 1), ("d", 2), ("e", 0))
        self.assertEqual(write_document(document), "a(b c(d)) e")
        self.assertEqual(write_document(document=document), "a(b c(d)) e")
        self.assertEqual(write_document((("a", 0), ("b", 1), ("c", 2), ("d", 3))), "a(b(c(d)))")

    def test_both_ways(self):
        for document in helper.lettered(6) + helper.all_documents(4, "bg") + list(helper.GREAT):
            text = write_document(document)
            self.assertEqual(read_document(text), document)
            if len(document) <= 6:
                self.assertEqual(text, told(helper.to_trees(document)))


class ReadTest(unittest.TestCase):
    def test_examples(self):
        self.assertEqual(read_document(""), ())
        self.assertEqual(read_document(text="a(b c(d)) e"), (("a", 0), ("b", 1), ("c", 1), ("d", 2), ("e", 0)))

    def test_places_of_errors(self):
        cases = {"i": 0, " ": 0, "(": 0, ")": 0, "A": 0, "\n": 0, "%": 0, "aa": 1, "ab c": 1, "a)": 1, "a,b": 1,
                 "a  b": 2, " a": 0, "a ": 2, "a (b)": 2, "a )": 2, "a(": 2, "a()": 2, "a( b)": 2, "a((b))": 2,
                 "a(b": 3, "a(b ": 4, "a(b )": 4, "a(b))": 4, "a(b)(c)": 4, "a(b)c": 4, "a(b) ": 5, "a(b)  c": 5,
                 "a(b) (c)": 5, "a(b(c)": 6, "a(b)) c": 4, "a(i)": 2, "a(b i)": 4, "a(bi)": 3, "a b\n": 3,
                 "a\nb": 1, "a(b c(d)) e)": 11}
        for text, place in cases.items():
            self.assertEqual(place_of_error(text), place, text)

    def test_all_short_texts(self):
        right = right_texts(4)
        # Five signs can begin a right text only if one of at most six nodes begins so.
        begun = {text[:length] for text in right_texts(6) for length in range(len(text) + 1)}
        for many in range(6):
            for signs in product(SIGNS, repeat=many):
                text = "".join(signs)
                if text in right:
                    self.assertEqual(write_document(read_document(text)), text)
                else:
                    lengths = [length for length in range(many + 1) if text[:length] in begun]
                    self.assertEqual(place_of_error(text), max(lengths), text)

    def test_a_text_cut_short_or_with_one_sign_more(self):
        whole = "a(b c(d e(f))) g(h)"
        for length in range(1, len(whole)):
            text = whole[:length]
            open_brackets = text.count("(") > text.count(")")
            wrong = open_brackets or text[-1] in " ("
            self.assertEqual(place_of_error(text), length if wrong else None, text)
        for place in range(len(whole) + 1):
            self.assertEqual(place_of_error(whole[:place] + "x" + whole[place:]), place)

    def test_what_is_no_text(self):
        for thing in helper.ANY_OBJECTS + (None, 0, 5, (), ("a",), (("a", 0),)):
            self.assertEqual(place_of_error(thing), 0, thing)

    def test_great_texts(self):
        for document in helper.TOO_GREAT:
            text = write_document(document[:20000])
            self.assertEqual(read_document(text), document[:20000])
        row = " ".join("a" * 20001)
        chain = "a(" * 20000 + "a" + ")" * 20000
        comb = "b" + "(a b" * 10000 + ")" * 10000
        for text in (row, chain, comb):
            self.assertEqual(place_of_error(text), len(text))
            self.assertEqual(place_of_error(text + " "), len(text) + 1)
            self.assertEqual(place_of_error(text + "a"), len(text))
            self.assertEqual(place_of_error(text + ")"), len(text))
            self.assertEqual(place_of_error(text + " i" + text), len(text) + 1)
        self.assertEqual(place_of_error(chain[:-1]), len(chain) - 1)
        self.assertEqual(place_of_error("a(" * 30000), 60000)
        self.assertEqual(place_of_error("(" * 30000), 0)
        deep = "a(" * 5000 + "b c" + ")" * 5000
        self.assertEqual(write_document(read_document(deep)), deep)


if __name__ == "__main__":
    unittest.main()
