"""Written forms."""

import random
import unittest

from leadrules.books import Book
from leadrules.errors import InvalidPicture, InvalidThing, InvalidTree
from leadrules.tables import Table
from leadrules.texts import picture_text, tree_text, words_of, written
from leadrules.trees import tree
from tests import cases, drawn, known_books, slow, slowtexts, wrong
from tests.test_formulas import tower
from tests.test_sayings import nots
from tests.wrong import RING, check_refused, check_too_many

X = ("day", "x")


def drawn_tree(draw, depth):
    """Something of the form of a tree."""
    word = draw.choice(("or", "late", "soon", "pair", "cross")) if depth and draw.random() < 0.7 else "ring"
    if word == "ring":
        return ("ring", [(draw.randint(0, 30), draw.randint(0, 30), draw.randint(-40, 40)) for _ in range(draw.randint(1, 4))])
    numbers = {"or": 0, "late": 1, "soon": 1}.get(word, 2)
    parts = 3 if word == "pair" else 2
    return ((word,) + tuple(draw.randint(0, 20) for _ in range(numbers))
            + tuple(drawn_tree(draw, depth - 1) for _ in range(parts)))


def drawn_picture(draw):
    """Something of the form of a picture, keys in any sequence."""
    names, rules = draw.sample("pqrstuvwxyz", draw.randint(0, 4)), draw.sample("abcdefgh", draw.randint(0, 3))
    answers = {}
    for rule in rules:
        asked = sorted(draw.sample(range(-20, 20), draw.randint(0, 4)))
        answers[rule] = [(day, draw.randint(-99, 99)) for day in asked]
    return ({name: draw.randint(-10 ** 12, 10 ** 12) for name in names}, answers)


def drawn_book(draw):
    """Rows and promises, with bounds of all kinds."""
    rows = [drawn.row(draw, "abcdefgh", 12) for _ in range(draw.randint(0, 6))]
    return rows, [drawn.promise(draw, "abcdefgh", 12) for _ in range(draw.randint(0, 6))]


class Written(unittest.TestCase):
    def test_formulas_and_sayings(self):
        self.assertEqual(written(("late", ("on", "a", X), ("add", -3, ("num", 0)))), "formula late on a day x add -3 num 0\n")
        self.assertEqual(written(X), "formula day x\n")
        self.assertEqual(written(("num", -7)), "formula num -7\n")
        self.assertEqual(written(("not", ("or", ("le", X, X), ("and", ("le", X, ("by", "b", X)), ("le", X, ("til", "h", X)))))),
                         "saying not or le day x day x and le day x by b day x le day x til h day x\n")
        self.assertEqual(written(("soon", ("num", 10 ** 12), ("num", 0))), "formula soon num 1000000000000 num 0\n")

    def test_words(self):
        self.assertEqual(words_of(("le", X, ("num", 3))), "le day x num 3")
        self.assertEqual(words_of(X), "day x")

    def test_tables(self):
        self.assertEqual(written(Table([0, 7, 7, 7, 7, 7, 7])), "table 0 7 7 7 7 7 7\n")
        self.assertEqual(written(Table([-4])), "table -4\n")
        self.assertEqual(written(Table(list(range(600)))), "table " + " ".join(map(str, range(600))) + "\n")

    def test_books(self):
        self.assertEqual(written(Book([], [])), "book\n")
        book = Book([("b", 0, -2), ("a", 5, 6), ("a", -3, 6)], [("quick", "b", "a"), ("lead", "b", None, 3), ("lead", "a", 1, None),
                                                            ("lead", "b", 0, 3), ("quick", "a", "h"), ("lead", "a", -2, 0)])
        self.assertEqual(written(book), "book\nrow a -3 6\nrow a 5 6\nrow b 0 -2\nlead a -2 0\nlead a 1 -\nlead b - 3\nlead b 0 3\n"
                                        "quick a h\nquick b a\n")

    def test_pictures(self):
        self.assertEqual(picture_text(({}, {})), "picture\n")
        self.assertEqual(picture_text(({"y": 0, "x": -5}, {"b": [], "a": ((-3, 4), (0, 2))})),
                         "picture\nday x -5\nday y 0\nrule a\nanswer -3 4\nanswer 0 2\nrule b\n")

    def test_trees(self):
        self.assertEqual(tree_text(RING), "tree\nring 0 0 -1\n")
        paper = ("or", ("late", 3, RING, ("cross", 4, 2, RING, RING)), ("pair", 0, 0, RING, ("soon", 0, RING, RING), RING))
        self.assertEqual(tree_text(paper), "tree\nor\nlate 3\nring 0 0 -1\ncross 4 2\nring 0 0 -1\nring 0 0 -1\npair 0 0\n"
                                           "ring 0 0 -1\nsoon 0\nring 0 0 -1\nring 0 0 -1\nring 0 0 -1\n")
        self.assertEqual(tree_text(("ring", ((1, 2, -3), (2, 1, 0)))), "tree\nring 1 2 -3 2 1 0\n")

    def test_deep_trees(self):
        deep = RING
        for at in range(3000):
            deep = ("soon", at, RING, deep)
        self.assertEqual(len(tree_text(deep).split("\n")), 6003)

    def test_slow_reckoning(self):
        draw = random.Random(440)
        for _ in range(200):
            told = draw.choice([drawn.formula(draw, 4, "pxz", "abh"), drawn.saying(draw, 2, 2)])
            if slowtexts.count(told) <= 60:
                word = "formula " if told[0] in slowtexts.FORMULAS else "saying "
                self.assertEqual(written(told), word + slowtexts.words_of(told) + "\n")
                self.assertEqual(words_of(told), slowtexts.words_of(told))
            days = drawn.list_of_days(draw, draw.randint(1, 20), 30)
            self.assertEqual(written(Table(days)), slowtexts.table_text(days))
            rows, promises = drawn_book(draw)
            self.assertEqual(written(Book(rows, promises)), slowtexts.book_text(rows, promises))
            picture, paper = drawn_picture(draw), drawn_tree(draw, 4)
            self.assertEqual(picture_text(picture), slowtexts.picture_text(picture))
            self.assertEqual(tree_text(paper), slowtexts.tree_text(paper))

    def test_told_trees(self):
        for _, _, log, promises in known_books.kept_books(441, 20):
            paper = tree(("le", ("on", "a", X), ("on", "a", ("add", 1, X))), Book(log, promises))
            self.assertEqual(tree_text(paper), slowtexts.tree_text(paper))

    def test_the_form_alone_counts(self):
        """Pictures that clash, trees of no saying, pairs whose numbers fall."""
        self.assertEqual(picture_text(({}, {"a": [(0, 9), (1, 3)]})), "picture\nrule a\nanswer 0 9\nanswer 1 3\n")
        self.assertEqual(tree_text(("pair", 9, 2, RING, RING, RING)).split("\n")[1], "pair 9 2")
        self.assertEqual(tree_text(("ring", [(3, 4, 5)])), "tree\nring 3 4 5\n")


class Refused(unittest.TestCase):
    def test_things(self):
        for value in wrong.NOT_THINGS:
            check_refused(self, InvalidThing, value, lambda: written(value))
            check_refused(self, InvalidThing, value, lambda: words_of(value))
        for value in (Table([0]), Book([], [])):
            check_refused(self, InvalidThing, value, lambda: words_of(value))

    def test_pieces(self):
        for call in (written, words_of):
            check_too_many(self, "pieces", 60, lambda: call(tower(60)))
            check_too_many(self, "pieces", 60, lambda: call(nots(58)))
        self.assertEqual(words_of(tower(59)).count("add"), sum(
            piece[0] == "add" for piece in slow.pieces(tower(59))))
        self.assertEqual(words_of(nots(57)).count("not"), 57)

    def test_pictures_and_trees(self):
        for value in wrong.NOT_PICTURES:
            check_refused(self, InvalidPicture, value, lambda: picture_text(value))
        for value in wrong.NOT_TREE_FORMS:
            check_refused(self, InvalidTree, value, lambda: tree_text(value))
        self.assertTrue(picture_text(cases.picture()).startswith("picture\nday x 5\n"))


if __name__ == "__main__":
    unittest.main()
