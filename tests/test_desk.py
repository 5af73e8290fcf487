"""Point 30: the desk."""

import random
import unittest

import helper
from everymatch.desk import run_desk
from everymatch.documents import write_document
from everymatch.edits import edited, kept_pairs
from everymatch.everywhere import same_everywhere
from everymatch.meaning import matches
from everymatch.sayings import write_saying

DOCUMENT = "a(b c(d)) e"
BEGUN = (f"document {DOCUMENT}", "saying over x over y", "saying top x top", "saying none some p p in h")

# Rows that stand well behind those above, with their answers.
GOOD = (
    ("text", DOCUMENT), ("count over", "3"), ("count top", "2"), ("count none", "0"), ("match over 0", "0,1"),
    ("match over 2", "2,3"), ("match top 1", "4"), ("number over 0,2", "1"), ("number over 0,3", "2"),
    ("number top 99999999999999999999999999", "2"), ("number none -", "0"), ("next over 0,1", "0,2"),
    ("next over 2,3", "none"), ("next top 0", "4"), ("next none -", "none"), ("changes over", "0 0"),
    ("alike over over", "yes"), ("back 0", "1"), ("mark 0 h", "1"), ("take 0", "1"), ("put - 0 a", "1"),
    ("put 0 2 a(b)", "1"), ("put 3 0 a", "1"), ("move 2 - 0", "1"), ("move 0 0 0", "1"), ("move 4 2 1", "1"),
    ("saying over x top", "yes"), ("saying abcdefgh x top", "yes"), ("saying a all p all q p is q", "yes"),
    ("document ", "yes"), ("document h", "yes"),
)

# Rows that cannot be read, or are refused.
BAD = (
    "", " ", "text ", " text", "text text", "Text", "texts", "tex", "count", "count ", "count  over", "count over ",
    "count other", "count Over", "count over top", "counts over", "COUNT over", "count overoverx", "count 0",
    "match over", "match over ", "match over 3", "match over -", "match over -1", "match over 00", "match over 01",
    "match over  0", "match over 0 ", "match over 0 0", "match 0 over", "match over 1a", "match over +1",
    "match over 99999999999999999999999999", "match over 0,1", "match other 0", "match none 0", "match over 1.0",
    "number over", "number over 0", "number over 0,1,2", "number over -", "number over 0,01", "number over 0, 1",
    "number over ,", "number over 0,", "number over ,0", "number over 0,,1", "number over -,0", "number top -",
    "number none 0", "number over 0,-1", "number over 0 1", "number over (0,1)", "next over", "next over 0", "next over -",
    "next over 0,1,2", "next top 0,1", "next other 0,1", "next over 0,1 ", "next none", "next none 0",
    "changes", "changes other", "changes over 0", "changes over ", "added over 0", "taken over 0", "added over",
    "added over -", "added other 0", "added over 0 0", "taken over 00", "alike over", "alike over other",
    "alike other over", "alike over top", "alike over over over", "alike over  over", "alike", "alike over none",
    "back", "back ", "back 1", "back -1", "back 00", "back -", "back 0 0", "back a", "back  0",
    "mark 0", "mark 0 i", "mark 0 ab", "mark 5 a", "mark - a", "mark 00 a", "mark 0  a", "mark 0 a ", "mark a 0",
    "mark 0 A", "mark 0 a b", "take", "take 5", "take -", "take 0 0", "take 01", "take -1", "take ", "take 0 ",
    "take 99999999999999999999", "put - 0", "put - 0 ", "put - 3 a", "put 5 0 a", "put 0 3 a", "put - 0  a",
    "put - 0 a b", "put - 0 a()", "put - 00 a", "put -1 0 a", "put - - a", "put 0 a", "put - 0 x", "put  - 0 a",
    "put - 0 (a)", "put - 0 a ", "put - 99999999999999999999 a", "move 0 0", "move 0 - 2", "move 0 - -", "move - 0 0",
    "move 5 - 0", "move 0 1 0", "move 2 3 0", "move 0 - 0 0", "move 0 -  0", "move 00 - 0", "move 0 - 01",
    "move 2 0 9", "saying", "saying over", "saying over ", "saying over x", "saying over x over", "saying x top",
    "saying over  x top", "saying over x top ", "saying overoverx x top", "saying Over x top", "saying o1 x top",
    "saying  x top", "saying over x in", "saying over x in ba", "saying over (x top and y top", "saying over not",
    "saying o_ x top", "saying - x top", "saying over X top", "saying over some x some x x top",
    "document", "document x", "document a(", "document a  b", "document  a", "document a ", "document a()",
    "documents a", "Document a", "document a(b))", "saying over " + helper.eight_marks("and"),
    "saying new " + helper.eight_marks("and"), "help", "0", "-", "count\tover", "nothing of this",
)


def written_nodes(nodes):
    return ",".join(map(str, nodes)) if nodes else "-"


class DeskTest(unittest.TestCase):
    def run_rows(self, rows):
        """The answers to some rows; one for each."""
        told = run_desk("\n".join(rows))
        self.assertIs(type(told), list)
        self.assertEqual([type(answer) for answer in told], [str] * len(rows))
        return told

    def test_good_rows(self):
        for row, answer in GOOD:
            self.assertEqual(self.run_rows([*BEGUN, row])[len(BEGUN):], [answer], row)

    def test_bad_rows_change_nothing(self):
        asked = ("text", "count over", "match over 1", "changes over", "count top", "number none -", "alike over over",
                 "mark 0 h", "changes top", "back 0")
        wanted = self.run_rows([*BEGUN, *asked])[len(BEGUN):]
        for row in BAD:
            self.assertEqual(self.run_rows([*BEGUN, row, *asked])[len(BEGUN):], ["no", *wanted], row)
        several = [row for row in BAD if row]
        self.assertEqual(self.run_rows([*BEGUN, *several, *asked])[len(BEGUN):], ["no"] * len(several) + wanted)

    def test_one_row_more_than_line_feeds(self):
        self.assertEqual(run_desk(text="text"), [""])
        self.assertEqual(run_desk("text\n\ntext"), ["", "no", ""])
        self.assertEqual(run_desk("\ntext\n"), ["no", "", "no"])
        for many in range(5):
            self.assertEqual(run_desk("\n" * many), ["no"] * (many + 1))
        self.assertIsNot(run_desk(""), run_desk(""))

    def test_at_first(self):
        self.assertEqual(self.run_rows(["text", "back 0", "back 1", "back 3", "put - 0 a(b)", "text"]),
                         ["", "1", "2", "no", "3", "a(b)"])
        self.assertEqual(self.run_rows(["count a", "saying a x top", "count a", "changes a", "match a 0"]),
                         ["no", "yes", "0", "0 0", "no"])

    def test_edits_and_changes(self):
        rows = ("put - 0 a(b)", "changes over", "added over 0", "added over 1", "taken over 0", "take 0", "changes over",
                "taken over 0", "added over 0", "text", "move 3 - 0", "text", "changes over", "taken over 0", "changes top",
                "added top 0", "back 0", "text", "changes over", "mark 1 h", "changes none", "added none 0", "text")
        self.assertEqual(self.run_rows([*BEGUN, *rows])[len(BEGUN):],
                         ["1", "1 0", "0,1", "no", "no", "2", "0 1", "0,1", "no", DOCUMENT, "3", "d a(b c) e", "0 1", "2,3",
                          "1 0", "0", "4", DOCUMENT, "3 2", "5", "1 0", "-", "a(h c(d)) e"])

    def test_alike(self):
        rows = ("saying a x over y", "saying b y over x", "saying c (x above y and not some z (x above z and z above y))",
                "saying d x top", "saying e some p p top", "saying f all p p top", "alike a c", "alike c a", "alike a a",
                "alike a d", "alike d e", "alike e f", "alike f e", "alike a b", "alike b a")
        told = self.run_rows(rows)
        self.assertEqual(told[:-2], ["yes"] * 9 + ["no", "no", " -", " -"])
        for answer in told[-2:]:
            self.assertRegex(answer, r"^[a-h]\([a-h]\) (0,1|1,0)$")

    def test_six_sayings(self):
        names = ("a", "b", "c", "d", "abcdefgh", "zz")
        rows = [f"saying {name} x top" for name in names]
        rows += ["saying g x top", "count g", "saying zz not x top", "saying a some p p in b", "put - 0 a(b b)"]
        rows += [f"count {name}" for name in names] + ["saying g x top"]
        self.assertEqual(self.run_rows(rows), ["yes"] * 6 + ["no", "no", "yes", "yes", "1"]
                         + ["1", "1", "1", "1", "1", "2", "no"])

    def test_a_refused_saying_leaves_the_elder_one(self):
        great = helper.eight_marks("and")
        self.assertEqual(self.run_rows(["document a(b)", "saying a x over y", "saying a " + great, "count a",
                                        "saying b " + great, "count b", "saying b x top", "match b 0"]),
                         ["yes", "yes", "no", "1", "no", "no", "yes", "0"])

    def test_document_begins_anew(self):
        rows = ("mark 0 h", "document b(b)", "text", "count over", "changes over", "added over 0", "back 1", "back 0",
                "changes over", "take 0", "document a", "count over", "count top", "back 0", "document ", "count top", "text")
        self.assertEqual(self.run_rows([*BEGUN, *rows])[len(BEGUN):],
                         ["1", "yes", "b(b)", "1", "0 0", "no", "no", "1", "1 1", "2", "yes", "0", "1", "1", "yes", "0", ""])

    def test_sayings_told_later(self):
        rows = ("document a", "put 0 0 b", "put 0 0 c", "saying s x over y", "count s", "changes s", "added s 0", "back 1",
                "count s", "changes s", "saying t x top", "changes t", "mark 0 h", "changes s", "back 0", "count s", "changes t",
                "put 0 0 d", "changes s")
        self.assertEqual(self.run_rows(rows), ["yes", "1", "2", "yes", "2", "1 0", "0,1", "3", "1", "1 2", "yes", "1 1", "4",
                                               "0 0", "5", "0", "1 1", "6", "1 0"])

    def test_all_by_chance(self):
        rng = random.Random(121)
        for _ in range(40):
            sayings = [helper.saying_by_chance(rng) for _ in range(rng.randrange(1, 7))]
            documents, pairs = [helper.document_by_chance(rng, rng.randrange(7))], [None]
            rows = [("document " + write_document(documents[0]), "yes")]
            late = rng.randrange(len(sayings) + 1)
            rows += [(f"saying {'abcdef'[at]} {write_saying(sayings[at])}", "yes") for at in range(late)]
            for _ in range(5):
                rows += [self.go_on(rng, documents, pairs), ("text", write_document(documents[-1]))]
                for at, saying in enumerate(sayings[:late]):
                    rows += self.asked(rng, "abcdef"[at], saying, documents, pairs)
                if late < len(sayings):
                    rows.append((f"saying {'abcdef'[late]} {write_saying(sayings[late])}", "yes"))
                    late += 1
            first, second = rng.randrange(late), rng.randrange(late)
            rows.append((f"alike {'abcdef'[first]} {'abcdef'[second]}", self.alike(sayings[first], sayings[second])))
            self.assertEqual(list(zip([row for row, _ in rows], self.run_rows([row for row, _ in rows]))), rows)

    def go_on(self, rng, documents, pairs):
        """An edit, or a going back, that fits, with its answer."""
        answer = str(len(documents))
        if rng.random() < 0.3:
            edition = rng.randrange(len(documents))
            pairs.append((None,) * len(documents[-1]))
            documents.append(documents[edition])
            return f"back {edition}", answer
        edit = helper.edit_by_chance(rng, documents[-1])
        pairs.append(kept_pairs(documents[-1], edit))
        documents.append(edited(documents[-1], edit))
        words = [edit[0], *(edit[1:] if edit[0] != "move" else (edit[1], *edit[2]))]
        if edit[0] == "put":
            words = ["put", *edit[1], write_document(edit[2])]
        return " ".join("-" if word is None else str(word) for word in words), answer

    def asked(self, rng, name, saying, documents, pairs):
        """Rows that ask of a saying, with their answers."""
        told = matches(saying, documents[-1])
        added, taken = ([], []) if len(documents) == 1 else helper.changed_plainly(*documents[-2:], pairs[-1], saying)
        nodes = tuple(rng.randrange(9) for _ in helper.free_plainly(saying))
        behind = next((one for one in told if one > nodes), None)
        rows = [(f"count {name}", str(len(told))), (f"changes {name}", f"{len(added)} {len(taken)}"),
                (f"number {name} {written_nodes(nodes)}", str(len([one for one in told if one < nodes]))),
                (f"next {name} {written_nodes(nodes)}", "none" if behind is None else written_nodes(behind))]
        for word, found in (("match", told), ("added", added), ("taken", taken)):
            at = rng.randrange(len(found) + 1)
            rows.append((f"{word} {name} {at}", written_nodes(found[at]) if at < len(found) else "no"))
        return rows

    def alike(self, saying, other):
        """The answer of alike."""
        if helper.free_plainly(saying) != helper.free_plainly(other):
            return "no"
        told = same_everywhere(saying, other)
        return "yes" if told is None else f"{write_document(told[0])} {written_nodes(told[1])}"


if __name__ == "__main__":
    unittest.main()
