"""Readers: written forms read again, and wrong lines."""

import random
import unittest

from leadrules.books import Book
from leadrules.errors import InvalidText
from leadrules.readers import read, read_picture, read_tree
from leadrules.tables import Table
from leadrules.texts import picture_text, tree_text, written
from tests import drawn, slowtexts, wrong
from tests.test_formulas import tower
from tests.test_parameters import content
from tests.test_sayings import nots
from tests.test_texts import drawn_book, drawn_picture, drawn_tree
from tests.wrong import RING, raised

X = ("day", "x")
READERS = {"thing": read, "picture": read_picture, "tree": read_tree}


def with_sorted_keys(picture):
    return tuple({key: part[key] for key in sorted(part)} for part in picture)


def drawn_text(draw):
    """A kind, and a written form of it."""
    kind = draw.choice(("told", "table", "book", "picture", "tree"))
    if kind == "told":
        told = draw.choice([drawn.formula(draw, 3, "pxz", "abh"), drawn.saying(draw, 1, 2)])
        return "thing", ("formula " if told[0] in slowtexts.FORMULAS else "saying ") + slowtexts.words_of(told) + "\n"
    if kind == "table":
        return "thing", slowtexts.table_text(drawn.list_of_days(draw, draw.randint(1, 8), 9))
    if kind == "book":
        return "thing", slowtexts.book_text(*drawn_book(draw))
    if kind == "picture":
        return "picture", slowtexts.picture_text(drawn_picture(draw))
    return "tree", slowtexts.tree_text(drawn_tree(draw, 3))


def spoilt(draw, text):
    """A text with a sign, a word or a line left out, put in, exchanged or moved."""
    way = draw.randrange(8)
    if way < 3:
        at = draw.randrange(len(text))
        sign = draw.choice("\n 0-19abxz")
        return text[:at] + ("", sign, sign + text[at])[way] + text[at + 1:]
    lines = text.split("\n")[:-1]
    at, other = draw.randrange(len(lines)), draw.randrange(len(lines))
    if way == 3:
        lines[at:at + 1] = []
    elif way == 4:
        lines.insert(other, lines[at])
    elif way == 5:
        lines[at], lines[other] = lines[other], lines[at]
    else:
        words = lines[at].split(" ")
        place = draw.randrange(len(words))
        more = draw.choice(["0", "-0", "-1", "00", "a", "h", "x", "-", "", "day", "on", "ring", "le", "7"])
        words[place:place + (way == 6)] = [more]
        lines[at] = " ".join(words)
    return "".join(line + "\n" for line in lines)


class Read(unittest.TestCase):
    def test_things(self):
        self.assertEqual(read("formula by b num 4\n"), ("by", "b", ("num", 4)))
        self.assertEqual(read("saying not le day x add -2 num 0\n"), ("not", ("le", X, ("add", -2, ("num", 0)))))
        self.assertEqual(read("table -2 0 1\n"), Table([-2, 0, 1]))
        self.assertEqual(read("book\n"), Book([], []))
        book = read("book\nrow a -3 6\nlead b - 3\nlead b 0 -\nquick a h\n")
        self.assertEqual(book, Book([("a", -3, 6)], [("lead", "b", None, 3), ("lead", "b", 0, None), ("quick", "a", "h")]))

    def test_pictures_and_trees(self):
        self.assertEqual(read_picture("picture\n"), ({}, {}))
        self.assertEqual(read_picture("picture\nday x 3\nrule a\nanswer -1 0\nanswer 0 -4\nrule b\n"),
                         ({"x": 3}, {"a": [(-1, 0), (0, -4)], "b": []}))
        self.assertEqual(read_tree("tree\nring 0 0 -1\n"), RING)
        self.assertEqual(read_tree("tree\npair 4 2\nring 0 0 -1\nor\nring 0 0 -1\nring 0 0 -1\nring 0 0 -1\n"),
                         ("pair", 4, 2, RING, ("or", RING, RING), RING))

    def test_written_forms_are_read_again(self):
        draw = random.Random(450)
        for _ in range(200):
            told = draw.choice([drawn.formula(draw, 4, "pxz", "abh"), drawn.saying(draw, 2, 2)])
            if slowtexts.count(told) <= 60:
                self.assertEqual(read(written(told)), told)
            table = Table(drawn.list_of_days(draw, draw.randint(1, 20), 30))
            self.assertEqual(read(written(table)), table)
            book = Book(*drawn_book(draw))
            self.assertEqual(read(written(book)), book)
            picture, paper = drawn_picture(draw), drawn_tree(draw, 4)
            found = read_picture(picture_text(picture))
            self.assertEqual(content(found), content(with_sorted_keys(picture)))
            self.assertEqual(content(read_tree(tree_text(paper))), content(paper))

    def test_read_things_are_written_alike(self):
        draw = random.Random(451)
        for _ in range(200):
            kind, text = drawn_text(draw)
            found = READERS[kind](text)
            self.assertEqual({"thing": written, "picture": picture_text, "tree": tree_text}[kind](found), text)

    def test_deep_trees(self):
        deep = RING
        for at in range(3000):
            deep = ("soon", at, RING, deep)
        text = tree_text(deep)
        self.assertEqual(tree_text(read_tree(text)), text)


class WrongLines(unittest.TestCase):
    def check(self, text, line, call=read):
        found = raised(lambda: call(text))
        self.assertIs(found.__class__, InvalidText, (text, found))
        self.assertEqual(found.line, line, text)
        self.assertIsInstance(found.line, int)

    def test_no_strings(self):
        for value in wrong.NOT_TEXTS:
            for call in READERS.values():
                self.check(value, 0, call)

    def test_lines_that_lack(self):
        for call in READERS.values():
            self.check("", 1, call)
        self.check("tree\n", 2, read_tree)
        self.check("tree\nor\n", 3, read_tree)
        self.check("tree\nor\nring 0 0 1\n", 4, read_tree)
        self.check("tree\npair 1 2\nring 0 0 1\nsoon 1\nring 0 0 1\nring 0 0 1\n", 7, read_tree)

    def test_last_lines_without_a_line_feed(self):
        self.check("formula day x", 1)
        self.check("book", 1)
        self.check("book\nrow a 1 2", 2)
        self.check("table 0", 1)
        self.check("formula day x\nformula", 2)
        self.check("picture", 1, read_picture)
        self.check("picture\nday x 1\nday y 2", 3, read_picture)
        self.check("tree", 1, read_tree)
        self.check("tree\nring 0 0 1", 2, read_tree)
        self.check("tree\nring 0 0 1\nr", 3, read_tree)

    def test_more_lines_than_there_may_be(self):
        for text in ("formula day x\n", "saying le day x day x\n", "table 0\n"):
            for more in (text, "\n", "book\n", " \n"):
                self.check(text + more, 2)
        self.check("book\n\n", 2)
        self.check("book\nbook\n", 2)
        self.check("tree\nring 0 0 1\nring 0 0 1\n", 3, read_tree)
        self.check("tree\nring 0 0 1\n\n", 3, read_tree)
        self.check("picture\n\n", 2, read_picture)
        self.check("picture\nday x 1\npicture\n", 3, read_picture)

    def test_numbers(self):
        for word in ("-0", "00", "01", "-01", "+1", "1.0", "", "-", "--1", "one", "1a", "0x1", "1-", "- 1", "1 ", " 1", "1_0"):
            self.check(f"formula num {word}\n", 1)
            self.check(f"table {word}\n", 1)
            self.check(f"formula add {word} day x\n", 1)
            self.check(f"book\nrow a {word} 3\n", 2)
            self.check(f"book\nrow a 3 {word}\n", 2)
            self.check(f"picture\nday x {word}\n", 2, read_picture)
            self.check(f"picture\nrule a\nanswer 3 {word}\n", 3, read_picture)
            self.check(f"picture\nrule a\nanswer {word} 3\n", 3, read_picture)
            self.check(f"tree\nring 0 0 {word}\n", 2, read_tree)
            self.check(f"tree\nring {word} 0 0\n", 2, read_tree)
            self.check(f"tree\nlate {word}\n", 2, read_tree)
            if word != "-":
                self.check(f"book\nlead a {word} 3\n", 2)
                self.check(f"book\nlead a - {word}\n", 2)
        self.assertEqual(read("formula num -10\n"), ("num", -10))
        self.assertEqual(read("formula num 1000000000000\n"), ("num", 10 ** 12))

    def test_blanks(self):
        for text in ("formula  day x\n", " formula day x\n", "formula day x \n", "formula day  x\n", "formuladay x\n",
                     "table 0  0\n", "table 0 \n", "book \n", "formula\n", "saying\n", "table\n", "\n", " \n"):
            self.check(text, 1)
        self.check("book\nrow a 1  2\n", 2)
        self.check("book\nrow a 1 2 \n", 2)
        self.check("book\nquick a  b\n", 2)
        self.check("picture \n", 1, read_picture)
        self.check("tree \nring 0 0 1\n", 1, read_tree)
        self.check("tree\nring  0 0 1\n", 2, read_tree)
        self.check("tree\nor \n", 2, read_tree)

    def test_formulas(self):
        for words in ("day", "day a", "day x day x", "on a", "on x day x", "on day x", "late day x", "late day x day x day x",
                      "le day x day x", "num", "num x", "add day x", "add 1", "soon num 1", "not day x", "Day x", "day X",
                      "by i day x", "til a num 1 2", "on a on b", "add 1 le day x day x"):
            self.check(f"formula {words}\n", 1)
        for words in ("le", "le day x", "le day x day x day x", "day x", "not", "not day x", "and le day x day x",
                      "or le day x day x le day x", "le le day x day x day x", "not not", "le day x not le day x day x",
                      "and day x day x", "LE day x day x"):
            self.check(f"saying {words}\n", 1)
        self.check("thing day x\n", 1)
        self.check("Formula day x\n", 1)

    def test_sixty_pieces(self):
        for told, more in ((tower(59), "add 1 "), (nots(57), "not ")):
            text = written(told)
            self.assertEqual(read(text), told)
            word, rest = text.split(" ", 1)
            self.check(f"{word} {more}{rest}", 1)
            self.check(f"{word} {more * 500}{rest}", 1)

    def test_tables(self):
        for days in ("1 0", "0 3", "0 0 4", "5 5 4", "0 1 2 3 9"):
            self.check(f"table {days}\n", 1)
        text = "table " + " ".join(["7"] * 600)
        self.assertEqual(read(text + "\n").length, 600)
        self.check(text + " 7\n", 1)

    def test_books_out_of_sequence(self):
        self.check("book\nrow b 0 1\nrow a 0 1\n", 3)
        self.check("book\nrow a 0 1\nrow a 0 1\n", 3)
        self.check("book\nrow a 10 1\nrow a 9 1\n", 3)
        self.check("book\nrow a 0 1\nrow a 0 -1\n", 3)
        self.check("book\nquick a b\nrow a 0 1\n", 3)
        self.check("book\nquick a b\nlead a 0 1\n", 3)
        self.check("book\nquick a b\nquick a b\n", 3)
        self.check("book\nquick b a\nquick a b\n", 3)
        self.check("book\nlead a 0 1\nlead a - 1\n", 3)
        self.check("book\nlead a 0 1\nlead a 0 -\n", 3)
        self.check("book\nlead a 10 11\nlead a 9 11\n", 3)
        self.assertEqual(len(read("book\nlead a - 1\nlead a -1 -\nlead a 0 -\nlead a 0 1\nlead b - 0\nquick a b\n").promises), 6)

    def test_books_and_their_promises(self):
        for line in ("lead a - -", "lead a 1", "lead a 1 2 3", "lead x 1 2", "quick a a", "quick a", "quick a b c", "quick a x",
                     "row a 1", "row a 1 2 3", "row x 1 2", "row", "lead", "quick", "slow a b", "Row a 1 2", "lead a b"):
            self.check(f"book\n{line}\n", 2)
            self.check(f"book\nrow a 0 1\n{line}\nrow a 5 6\n", 3)

    def test_more_than_a_book_takes(self):
        rows = [f"row a {day} 0\n" for day in range(30)]
        promises = [f"lead a - {most}\n" for most in range(15)]
        for many in (23, 24):
            self.assertEqual(len(read("book\n" + "".join(rows[:many])).log), many)
        for many in (25, 30):
            self.check("book\n" + "".join(rows[:many]), 26)
        for many in (11, 12):
            self.assertEqual(len(read("book\nrow a 0 0\n" + "".join(promises[:many])).promises), many)
        for many in (13, 15):
            self.check("book\nrow a 0 0\n" + "".join(promises[:many]), 15)
        self.check("book\n" + "".join(rows[:24]) + "".join(promises[:12]) + "quick a b\n", 38)

    def test_pictures(self):
        for lines, line in ((["day y 1", "day x 2"], 3), (["day x 1", "day x 1"], 3), (["rule b", "rule a"], 3),
                            (["rule a", "rule a"], 3), (["rule a", "day x 1"], 3), (["answer 0 1"], 2), (["day a 1"], 2),
                            (["day x 1", "answer 0 1"], 3), (["rule x"], 2), (["rule"], 2), (["rule a b"], 2),
                            (["rule a", "answer 1 0", "answer 0 1"], 4), (["rule a", "answer 0 0", "answer 0 1"], 4),
                            (["rule a", "answer 0"], 3), (["rule a", "answer 0 1 2"], 3), (["day x"], 2), (["day x 1 2"], 2),
                            (["rule a", "answer 5 0", "rule b", "answer 4 0", "answer 4 0"], 6)):
            self.check("picture\n" + "".join(part + "\n" for part in lines), line, read_picture)
        self.assertEqual(read_picture("picture\nrule a\nanswer 5 0\nrule b\nanswer 4 9\n")[1], {"a": [(5, 0)], "b": [(4, 9)]})

    def test_trees(self):
        for line in ("ring", "ring 0 0", "ring 0 0 1 2", "ring -1 0 0", "ring 0 -1 0", "or 1", "late", "late 1 2", "late -1",
                     "soon x", "pair 1", "pair 1 2 3", "pair 1 -2", "cross 1", "cross", "legs 0 0 1", "rest 1", "tree", "Or"):
            self.check(f"tree\n{line}\n", 2, read_tree)
            self.check(f"tree\nor\nring 0 0 -1\n{line}\nring 0 0 -1\n", 4, read_tree)

    def test_kinds_have_their_own_readers(self):
        texts = {"thing": "book\n", "picture": "picture\n", "tree": "tree\nring 0 0 1\n"}
        for kind, call in READERS.items():
            for other, text in texts.items():
                if other != kind:
                    self.check(text, 1, call)

    def test_cutting_and_trying(self):
        """Written forms that are spoilt once or twice, beside the wrong line found by cutting and trying."""
        draw = random.Random(452)
        found = {}
        for _ in range(4000):
            kind, text = drawn_text(draw)
            for _ in range(draw.randint(0, 2)):
                text = spoilt(draw, text) if "\n" in text else text
            due = slowtexts.wrong_line(text, kind)
            place = "right" if due is None else "first" if due == 1 else "later"
            found[place] = found.get(place, 0) + 1
            if due is None:
                self.assertIsNone(raised(lambda: READERS[kind](text)), text)
            else:
                self.check(text, due, READERS[kind])
        self.assertTrue(len(found) == 3 and min(found.values()) > 500, found)


if __name__ == "__main__":
    unittest.main()
