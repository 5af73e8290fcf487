"""Point 13: sayings and their texts."""

import random
import unittest

import helper
from everymatch.errors import BadText
from everymatch.sayings import is_saying, read_saying, write_saying

TEXTS = ("x in a", "p in abcdefgh", "x over y", "y above x", "x then y", "z ahead p", "x is y", "x is x", "x top",
         "(x top and x over y)", "(p is z or p in bh)", "not x top", "some x x top", "all y x over y")

# What a saying, the rest of a row of marks, and a name can be; each sign that is not a key stands for itself.
GRAMMAR = {
    "S": tuple("N over N|N above N|N then N|N ahead N|N is N|N top|N in M|(S and S)|(S or S)|not S|"
               "some N S|all N S".split("|")),
    "N": tuple("pqrstuvwxyz"),
    "M": tuple(mark + "12345678"[at] for at, mark in enumerate("abcdefgh")),
    **{"12345678"[at]: ("",) + tuple("abcdefgh"[more] + "12345678"[more] for more in range(at + 1, 8))
       for at in range(8)},
}


def place_plainly(text):
    """The index at which the text goes wrong, told by all ways of reading it at once; None if it is right.

    A way is what is still to be read, as (a sign, what stands behind it).
    """
    ways = unfolded([("S", ())])
    for place, sign in enumerate(text):
        ways = unfolded([way[1] for way in ways if way and way[0] == sign])
        if not ways:
            return place
    return None if () in ways else len(text)


def unfolded(ways):
    """All ways that begin with a sign of a text, or that end there, of those that may begin otherwise."""
    found = []
    for way in ways:
        if not way or way[0] not in GRAMMAR:
            found.append(way)
            continue
        for text in GRAMMAR[way[0]]:
            rest = way[1]
            for sign in reversed(text):
                rest = (sign, rest)
            found.extend(unfolded([rest]))
    return found


class WriteTest(unittest.TestCase):
    def test_each_sort(self):
        for saying, text in zip(helper.SAYINGS, TEXTS, strict=True):
            self.assertEqual(write_saying(saying), text)
            self.assertEqual(write_saying(saying=saying), text)

    def test_nested(self):
        top, under = ("top", "x"), ("child", "x", "y")
        both = ("both", top, under)
        self.assertEqual(write_saying(("not", ("not", top))), "not not x top")
        self.assertEqual(write_saying(("not", both)), "not (x top and x over y)")
        self.assertEqual(write_saying(("both", ("not", top), under)), "(not x top and x over y)")
        self.assertEqual(write_saying(("either", both, top)), "((x top and x over y) or x top)")
        self.assertEqual(write_saying(("either", top, both)), "(x top or (x top and x over y))")
        self.assertEqual(write_saying(("some", "y", both)), "some y (x top and x over y)")
        self.assertEqual(write_saying(("both", ("some", "y", under), top)), "(some y x over y and x top)")
        self.assertEqual(write_saying(("all", "p", ("some", "y", ("not", under)))), "all p some y not x over y")
        self.assertEqual(write_saying(("some", "s", ("marked", "s", ("a", "c")))), "some s s in ac")


class ReadTest(unittest.TestCase):
    def wrong(self, text, place):
        with self.assertRaises(BadText) as caught:
            read_saying(text)
        self.assertEqual(caught.exception.place, place, str(text)[:200])

    def test_each_sort(self):
        for saying, text in zip(helper.SAYINGS, TEXTS, strict=True):
            self.assertEqual(read_saying(text), saying)
            self.assertEqual(read_saying(text=text), saying)

    def test_each_name(self):
        for name in "pqrstuvwxyz":
            self.assertEqual(read_saying(name + " top"), ("top", name))
            self.assertEqual(read_saying("x is " + name), ("same", "x", name))
            self.assertEqual(read_saying(f"some {name} {name} then x"), ("some", name, ("next", name, "x")))
            self.assertEqual(read_saying(f"all {name} {name} in abcdefgh"),
                             ("all", name, ("marked", name, tuple("abcdefgh"))))
        for sign in "abhiloABXZ0_":
            self.wrong(f"some {sign} p top", 5)
            self.wrong(f"p is {sign}", 5)

    def test_both_ways(self):
        rng = random.Random(13)
        for _ in range(1000):
            saying = helper.some_saying(rng, 4, "psxyz")
            if is_saying(saying):
                self.assertEqual(read_saying(write_saying(saying)), saying)

    def test_told_sayings(self):
        for text in helper.TOLD:
            text = text.replace("M", "ab").replace("N", "bch").replace("K", "g")
            self.assertEqual(write_saying(read_saying(text)), text)

    def test_what_is_no_text(self):
        for thing in helper.ANY_OBJECTS + (None, 0, 1, (), ("x", "top"), ("top", "x"), ["x top"]):
            self.wrong(thing, 0)

    def test_places(self):
        told = (("", 0), ("x", 1), ("x ", 2), ("x t", 3), ("x to", 4), ("x top", None), ("x top ", 5), ("x topp", 5),
                (" x top", 0), ("x  top", 2), ("xtop", 1), ("X top", 0), ("a top", 1), ("a", 1), ("al", 2), ("all", 3),
                ("all ", 4), ("all a", 4), ("all x", 5), ("allx", 3), ("all x ", 6), ("all x x top", None),
                ("s", 1), ("s ", 2), ("so", 2), ("s top", None), ("some", 4), ("sime", 1), ("some s s top", None),
                ("n", 1), ("no", 2), ("nox", 2), ("notx top", 3), ("not  x top", 4), ("not x top", None),
                ("x in", 4), ("x in ", 5), ("x in i", 5), ("x in ab", None), ("x in ba", 6), ("x in aa", 6),
                ("x in abcdefgh", None), ("x in abcdefgha", 13), ("x in a b", 6), ("x ina", 4), ("x in x", 5),
                ("x is", 4), ("x it", 3), ("x is y", None), ("x is yz", 6), ("x isy", 4), ("x is  y", 5),
                ("x over a", 7), ("x ober y", 3), ("x a", 3), ("x ab", 4), ("x ah", 4), ("x ac", 3), ("x ahead", 7),
                ("x above", 7), ("x th", 4), ("x tip", 3), ("x then y", None), ("x top y", 5),
                ("(", 1), ("( ", 1), ("()", 1), ("(x top", 6), ("(x top ", 7), ("(x top)", 6), ("(x top a", 8),
                ("(x top and", 10), ("(x top andx", 10), ("(x top an or", 9), ("(x top and x top", 16),
                ("(x top and x top ", 16), ("(x top and x top)", None), ("(x top and x top))", 17),
                ("(x top or x top) ", 16), ("((x top or x top)", 17), ("(x top xor x top)", 7), ("(x top, x top)", 6),
                ("(x in ab and x top)", None), ("(x in a and x in b)", None), ("(x in ba or x top)", 7),
                ("x top and x top", 5), ("(not x top or x top)", None), ("not (x top)", 10), ("x top\n", 5),
                ("\nx top", 0), ("x\ntop", 1), ("some x y", 8), ("some x not y top", None), ("some xy x top", 6))
        for text, place in told:
            self.assertEqual(place_plainly(text), place, text)
            if place is None:
                self.assertTrue(is_saying(read_saying(text)))
            else:
                self.wrong(text, place)

    def check(self, text):
        place = place_plainly(text)
        if place is not None:
            return self.wrong(text, place)
        try:
            self.assertEqual(write_saying(read_saying(text)), text)
        except BadText as error:
            self.assertEqual(error.place, len(text))

    def test_each_sign_another_one(self):
        longer = ("(not some y x over y or (x in acdh and all z z ahead x))", "((x is y or y top) and x then y)",
                  "some s all p not (p above s and (s in bh or s then p))")
        for text in TEXTS + longer:
            for at in range(len(text) + 1):
                self.check(text[:at])
                self.check(text[at:])
                for sign in " ()ahixyt\nS1":
                    self.check(text[:at] + sign + text[at:])
                    self.check(text[:at] + sign + text[at + 1:])

    def test_all_short_texts(self):
        short = [""]
        for text in short:
            self.check(text)
            if len(text) < 3:
                short.extend(text + sign for sign in "abdhimnoprstvxyz ()")

    def test_beyond_the_bounds(self):
        deep, wide = "not " * 12 + "x top", "(" * 20 + "x top" + " or x top)" * 20
        beyond = (deep, wide, "((x over y and z top) and p top)", "some p some q some r some s some t some u p top",
                  "some x some x x top", "some x (y top and all x x top)", "(x top and some x x top)",
                  "((x over y and z top) or all p all q all r p top)", "(some x x top and x top)",
                  "(x over y and p over q)", "not " * 1000 + "x top", "(" * 1000 + "x top" + " and y top)" * 1000,
                  "(x top or " * 1000 + "y top" + ")" * 1000, "some p all q " * 1000 + "p over q",
                  "not (" * 30000 + "x in ah" + " or y is z)" * 30000)
        for text in beyond:
            self.wrong(text, len(text))
            self.wrong(text + " ", len(text))
            self.wrong(text + ")", len(text))
            self.wrong(text[:-1] + "(", len(text) - 1)
            self.wrong("(" + text, len(text) + 1)
            self.wrong("!" + text, 0)
            if "top" in text:
                self.wrong(text.replace("top", "tip", 1), text.find("top") + 1)
        self.assertTrue(is_saying(read_saying(deep[4:])))
        self.assertTrue(is_saying(read_saying("(" * 10 + "x top" + " or x top)" * 10)))

    def test_forty_sayings_and_more(self):
        for many in range(30, 50):
            text = text_of(helper.of_many(many))
            if many <= 40:
                self.assertEqual(read_saying(text), helper.of_many(many))
            else:
                self.wrong(text, len(text))


def text_of(saying):
    """The text of a saying of both, not and top."""
    if saying[0] == "both":
        return f"({text_of(saying[1])} and {text_of(saying[2])})"
    return "not " + text_of(saying[1]) if saying[0] == "not" else saying[1] + " top"


if __name__ == "__main__":
    unittest.main()
