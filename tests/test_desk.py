"""Desks: deeds, answers, what can be taken back, and trials."""

import random
import unittest

from leadrules import errors
from leadrules.books import Book
from leadrules.desk import Desk, Trial, tried
from leadrules.sure import sureness
from tests import drawn, known_books, slow, slowdesk, slowtexts, wrong
from tests.test_formulas import tower
from tests.test_sayings import nots
from tests.wrong import check_missing, check_refused, check_too_many, raised

EMPTY = Book([], [])
X = ("day", "x")
SOON = "watch soon le on a num 1 num 9"
SAYING = ("le", ("on", "a", ("num", 1)), ("num", 9))
LONG = slowtexts.words_of(nots(57))


def everything(desk):
    """All that a desk tells of itself, and what undo and redo would do."""
    trial = desk.copy()
    undone, again = [], []
    while len(trial):
        undone.append(trial.do("undo"))
    trial = desk.copy()
    while raised(lambda: again.append(trial.do("redo"))) is None:
        pass
    return (desk.book.log, desk.book.promises, desk.labels, [desk.saying(label) for label in desk.labels], desk.do("states"),
            desk.lines(), len(desk), undone, again)


def check_failed(test, desk, error, action, **attributes):
    """Check that an action raises just this error with these attributes, and that nothing is changed."""
    ahead = everything(desk)
    found = raised(action)
    test.assertEqual(found.__class__.__name__, error, found)
    test.assertEqual({name: getattr(found, name) for name in attributes}, attributes)
    test.assertEqual(everything(desk), ahead)
    return found


class Deeds(unittest.TestCase):
    def test_rows(self):
        desk = Desk(Book([("a", 0, 4)], []))
        self.assertEqual(desk.do("saw a 2 8"), "-")
        self.assertEqual(desk.book, Book([("a", 0, 4), ("a", 2, 8)], []))
        self.assertEqual(desk.do("strike a 0 4"), "-")
        self.assertEqual(desk.book, Book([("a", 2, 8)], []))
        self.assertEqual((desk.do("rows"), desk.do("promises")), ("1", "0"))

    def test_promises(self):
        desk = Desk(EMPTY)
        for command in ("promise quick b a", "promise lead a - 3", "promise lead a 0 -", "promise lead a -5 3"):
            self.assertEqual(desk.do(command), "-")
        self.assertEqual(desk.book.promises, [("lead", "a", None, 3), ("lead", "a", -5, 3), ("lead", "a", 0, None),
                                              ("quick", "b", "a")])
        self.assertEqual(desk.do("release lead a 0 -"), "-")
        self.assertEqual(desk.do("release quick b a"), "-")
        self.assertEqual((desk.do("promises"), desk.do("rows")), ("2", "0"))

    def test_watches(self):
        desk = Desk(EMPTY)
        self.assertEqual(desk.do(SOON), "soon maybe")
        self.assertEqual((desk.labels, desk.saying("soon"), desk.do("saying soon")), (["soon"], SAYING, "le on a num 1 num 9"))
        self.assertEqual(desk.do("watch all le day x day x"), "all sure")
        self.assertEqual(desk.do("watch none not le day x day x"), "none never")
        self.assertEqual((desk.labels, desk.do("states")), (["all", "none", "soon"], "all sure, none never, soon maybe"))
        self.assertEqual((desk.do("forget none"), desk.labels, desk.do("states")), ("-", ["all", "soon"], "all sure, soon maybe"))
        # One that was forgotten counts as changed when it comes to be watched again, with the same state.
        self.assertEqual(desk.do("watch none not le day x day x"), "none never")

    def test_changes(self):
        desk = Desk(EMPTY)
        desk.do_all(SOON, "watch late le num 10 on a num 1", "watch b le on b num 0 num 0")
        self.assertEqual(desk.do("saw a 2 8"), "late never, soon sure")
        self.assertEqual(desk.do("saw a 5 9"), "-")
        self.assertEqual(desk.do("strike a 2 8"), "-")
        self.assertEqual(desk.do("strike a 5 9"), "late maybe, soon maybe")
        self.assertEqual(desk.do("promise lead a 9 -"), "late sure, soon never")
        self.assertEqual(desk.do("promise lead b - 0"), "b sure")
        self.assertEqual(desk.do("states"), "b sure, late sure, soon never")

    def test_names_stand_for_any_days(self):
        desk = Desk(Book([], [("lead", "a", 1, 3)]))
        self.assertEqual([desk.do("watch l le day s on a day s"), desk.do("watch m le on a day x day y"),
                          desk.do("watch n le on a day x day x")], ["l sure", "m maybe", "n never"])

    def test_broken_books_and_mended_ones(self):
        desk = Desk(Book([("a", 0, 4)], []))
        desk.do_all(SOON, "watch all le day x day x")
        self.assertEqual(desk.do("saw a 1 3"), "all broken, soon broken")
        self.assertEqual((desk.do("state soon"), desk.do("why soon"), desk.do("why all")), ("broken",) * 3)
        self.assertEqual([desk.do(command) for command in ("ask le day x day x", "least num 0", "greatest on a num 0",
                                                           "slack day x day x")], ["broken"] * 4)
        self.assertEqual(desk.do("saw a 2 9"), "-")
        self.assertEqual((desk.do("watch more le day x day y"), desk.do("rows"), desk.do("saying more")),
                         ("more broken", "3", "le day x day y"))
        self.assertEqual(desk.do("strike a 1 3"), "all sure, more maybe, soon sure")
        self.assertEqual(desk.do("promise lead a 5 -"), "all broken, more broken, soon broken")
        self.assertEqual(desk.do("undo"), "promise lead a 5 -")
        self.assertEqual(desk.do("states"), "all sure, more maybe, soon sure")
        self.assertEqual(Desk(Book([], [("lead", "a", 3, 2)])).do("watch l le day x day x"), "l broken")


class Answers(unittest.TestCase):
    def test_why(self):
        desk = Desk(Book([("a", 2, 8), ("a", 5, 9), ("b", -1, 20)], []))
        desk.do_all(SOON, "watch late le num 10 on a num 2", "watch all le day x day x", "watch z le on c num 0 num 0",
                    "watch two and le on a num 1 num 8 le num 20 on b num -1")
        self.assertEqual([desk.do(f"why {label}") for label in ("soon", "late", "all", "z", "two")],
                         ["a 2 8", "a 2 8", "-", "maybe", "a 2 8, b -1 20"])

    def test_ask(self):
        desk = Desk(Book([("a", 2, 8)], []))
        self.assertEqual([desk.do(f"ask {words}") for words in ("le on a num 1 num 9", "le num 9 on a num 1", "le on a day x num 9")],
                         ["sure", "never", "maybe"])
        self.assertEqual((len(desk), desk.labels), (0, []))

    def test_numbers(self):
        desk = Desk(Book([("a", 0, 4)], [("lead", "b", 1, 3)]))
        self.assertEqual([desk.do(command) for command in (
            "greatest on a num -3", "least on a num -3", "least on a num 2", "greatest on b num 5", "least on b num 5", "least num -7",
            "slack on b day x day x", "slack day x on b day x", "slack on a day x day x", "slack num 3 num 5")],
            ["4", "none", "4", "8", "6", "-7", "3", "-1", "none", "-2"])

    def test_states(self):
        desk = Desk(EMPTY)
        self.assertEqual(desk.do("states"), "-")
        desk.do(SOON)
        self.assertEqual((desk.do("states"), desk.do("state soon")), ("soon maybe", "maybe"))


class Back(unittest.TestCase):
    def test_undo_and_redo(self):
        desk = Desk(EMPTY)
        desk.do_all(SOON, "saw a 2 8", "watch b le day x day x", "forget soon")
        self.assertEqual((len(desk), desk.lines()), (4, [SOON, "saw a 2 8", "watch b le day x day x", "forget soon"]))
        self.assertEqual([desk.do("undo"), desk.do("states")], ["forget soon", "b sure, soon sure"])
        self.assertEqual([desk.do("undo"), desk.do("undo"), desk.do("states")], ["watch b le day x day x", "saw a 2 8", "soon maybe"])
        self.assertEqual((len(desk), desk.lines(), desk.book), (1, [SOON], EMPTY))
        self.assertEqual([desk.do("redo"), desk.do("states")], ["saw a 2 8", "soon sure"])
        self.assertEqual([desk.do("redo"), desk.do("redo")], ["watch b le day x day x", "forget soon"])
        check_failed(self, desk, "NothingToRedo", lambda: desk.do("redo"))
        self.assertEqual([desk.do("undo") for _ in range(4)], [
            "forget soon", "watch b le day x day x", "saw a 2 8", SOON])
        check_failed(self, desk, "NothingToUndo", lambda: desk.do("undo"))
        self.assertEqual((desk.labels, desk.lines(), len(desk)), ([], [], 0))

    def test_a_deed_behind_an_undo(self):
        desk = Desk(EMPTY)
        desk.do_all(SOON, "saw a 2 8", "undo")
        # What is no deed, and what fails, leaves what can be done again.
        desk.do_all("states", "ask le day x day x", "rows")
        raised(lambda: desk.do("forget late"))
        self.assertEqual(desk.attempt("redo"), ["saw a 2 8"])
        desk.do("saw a 3 8")
        check_failed(self, desk, "NothingToRedo", lambda: desk.do("redo"))
        self.assertEqual(desk.lines(), [SOON, "saw a 3 8"])
        self.assertEqual([desk.do("undo"), desk.do("undo"), desk.do("redo"), desk.do("redo")], ["saw a 3 8", SOON, SOON, "saw a 3 8"])

    def test_undo_of_the_same_deed_twice(self):
        desk = Desk(Book([("a", 0, 4)], []))
        desk.do_all("strike a 0 4", "saw a 0 4", "strike a 0 4", "undo", "undo", "redo")
        self.assertEqual((desk.book.log, desk.lines()), ([("a", 0, 4)], ["strike a 0 4", "saw a 0 4"]))


class Failing(unittest.TestCase):
    def test_no_commands(self):
        desk = Desk(EMPTY)
        desk.do_all(SOON, "saw a 0 1", "undo")
        for value in wrong.NOT_COMMANDS + wrong.NOT_TEXTS:
            for call in (desk.do, desk):
                check_refused(self, errors.InvalidCommand, value, lambda: call(value))
        check_failed(self, desk, "InvalidCommand", lambda: desk.do("saw"), value="saw")

    def test_what_is_there_and_what_is_not(self):
        desk = Desk(Book([("a", 0, 4)], [("quick", "a", "b"), ("lead", "a", None, 9)]))
        desk.do_all(SOON, "saw b 0 99", "undo")
        for command, error, attributes in (
                ("saw a 0 4", "RowThere", {"row": ("a", 0, 4)}), ("strike a 0 5", "MissingRow", {"row": ("a", 0, 5)}),
                ("strike b 0 4", "MissingRow", {"row": ("b", 0, 4)}),
                ("promise quick a b", "PromiseThere", {"promise": ("quick", "a", "b")}),
                ("promise lead a - 9", "PromiseThere", {"promise": ("lead", "a", None, 9)}),
                ("release quick b a", "MissingPromise", {"promise": ("quick", "b", "a")}),
                ("release lead a -3 9", "MissingPromise", {"promise": ("lead", "a", -3, 9)}),
                ("watch soon le day x day x", "LabelTaken", {"label": "soon"}), ("forget late", "UnknownLabel", {"label": "late"}),
                ("state late", "UnknownLabel", {"label": "late"}), ("saying late", "UnknownLabel", {"label": "late"}),
                ("why late", "UnknownLabel", {"label": "late"})):
            for call in (desk.do, desk):
                check_failed(self, desk, error, lambda: call(command), **attributes)

    def test_too_many_rows_and_promises(self):
        log, promises = [("a", day, day) for day in range(24)], [("lead", "a", None, most) for most in range(12)]
        desk = Desk(Book(log, promises))
        check_failed(self, desk, "TooMany", lambda: desk.do("saw a 30 30"), what="rows", limit=24)
        check_failed(self, desk, "TooMany", lambda: desk.do("promise quick a b"), what="promises", limit=12)
        check_failed(self, desk, "RowThere", lambda: desk.do("saw a 3 3"), row=("a", 3, 3))
        desk.do_all("strike a 3 3", "saw a 30 30", "release lead a - 4", "promise quick a b")

    def test_pieces(self):
        """Sayings of 60 pieces are commands, but sureness asks of one with a not more."""
        desk = Desk(EMPTY)
        for command in (f"watch l {LONG}", f"ask {LONG}"):
            check_failed(self, desk, "TooMany", lambda: desk.do(command), what="pieces", limit=60)
        formula = slowtexts.words_of(tower(59, ("num", 0)))
        for command in (f"least {formula}", f"greatest {formula}", f"slack {formula} num 0", f"slack num 0 {formula}"):
            check_failed(self, desk, "TooMany", lambda: desk.do(command), what="pieces", limit=60)
        shorter = slowtexts.words_of(tower(58, ("num", 0)))
        self.assertEqual((desk.do(f"least {shorter}"), desk.do(f"greatest {shorter}")), ("58", "58"))
        self.assertEqual(desk.do("watch l " + LONG[4:]).split(" ")[0], "l")

    def test_pieces_beside_a_broken_book(self):
        """No state is reckoned while the book is broken; then the deed fails that would mend it."""
        desk = Desk(Book([("a", 0, 5), ("a", 1, 4)], []))
        self.assertEqual((desk.do(f"ask {LONG}"), desk.do(f"watch l {LONG}")), ("broken", "l broken"))
        self.assertEqual(desk.do(f"least {slowtexts.words_of(tower(59, ('num', 0)))}"), "broken")
        check_failed(self, desk, "TooMany", lambda: desk.do("strike a 0 5"), what="pieces", limit=60)
        self.assertEqual((desk.do("forget l"), desk.do("strike a 0 5")), ("-", "-"))

    def test_names_where_there_must_be_none(self):
        for book in (EMPTY, Book([("a", 0, 5), ("a", 1, 4)], [])):
            desk = Desk(book)
            long = slowtexts.words_of(tower(59))
            for command, name in (("least day z", "z"), ("greatest late on a day y soon day x num 0", "x"), (f"least {long}", "x")):
                check_failed(self, desk, "MissingName", lambda: desk.do(command), name=name)

    def test_labels(self):
        desk = Desk(EMPTY)
        for at in range(12):
            desk.do(f"watch l{at} le day x day x")
        check_failed(self, desk, "TooMany", lambda: desk.do("watch more le day x day x"), what="labels", limit=12)
        check_failed(self, desk, "LabelTaken", lambda: desk.do("watch l3 le day x day x"), label="l3")
        # Behind the errors of the saying.
        check_failed(self, desk, "TooMany", lambda: desk.do(f"watch more {LONG}"), what="pieces", limit=60)
        self.assertEqual((desk.do("forget l4"), desk.do("watch more le day x day x")), ("-", "more sure"))
        self.assertEqual(desk.labels, sorted([f"l{at}" for at in range(12) if at != 4] + ["more"]))

    def test_deeds(self):
        desk = Desk(EMPTY)
        for at in range(300):
            desk.do(("saw" if at % 2 == 0 else "strike") + " a 0 0")
        self.assertEqual((len(desk), desk.do("rows")), (300, "0"))
        for command in ("saw a 0 0", SOON, "promise quick a b"):
            check_failed(self, desk, "TooMany", lambda: desk.do(command), what="deeds", limit=300)
        # Behind all others.
        check_failed(self, desk, "MissingRow", lambda: desk.do("strike a 0 0"), row=("a", 0, 0))
        check_failed(self, desk, "TooMany", lambda: desk.do(f"watch l {LONG}"), what="pieces", limit=60)
        check_failed(self, desk, "NothingToRedo", lambda: desk.do("redo"))
        self.assertEqual((desk.do("states"), desk.do("undo"), len(desk)), ("-", "strike a 0 0", 299))
        self.assertEqual((desk.do("redo"), len(desk), desk.do("undo"), desk.do("strike a 0 0"), len(desk)),
                         ("strike a 0 0", 300, "strike a 0 0", "-", 300))

    def test_too_many_deeds_behind_too_many_labels(self):
        lines = [f"watch l{at} le day x day x" for at in range(12)]
        lines += ["saw a 0 0", "strike a 0 0"] * 144
        desk = Desk.again(EMPTY, lines)
        self.assertEqual(len(desk), 300)
        check_failed(self, desk, "TooMany", lambda: desk.do("watch more le day x day x"), what="labels", limit=12)
        check_failed(self, desk, "TooMany", lambda: desk.do("forget l3"), what="deeds", limit=300)


class Several(unittest.TestCase):
    def test_do_all(self):
        desk = Desk(EMPTY)
        self.assertEqual(desk.do_all(), [])
        self.assertEqual(desk.do_all(SOON, "saw a 2 8", "undo", "redo", "states"),
                         ["soon maybe", "soon sure", "saw a 2 8", "saw a 2 8", "soon sure"])

    def test_commands_that_fail(self):
        desk = Desk(EMPTY)
        desk.do_all(SOON, "saw a 2 8", "undo")
        for commands, position, cause in (
                (["saw a 3 4", "saw a 3 4", "states"], 1, errors.RowThere), (["redo", "redo"], 1, errors.NothingToRedo),
                ([None], 0, errors.InvalidCommand), (["undo", "undo"], 1, errors.NothingToUndo), (["rows", "why x"], 1, errors.UnknownLabel),
                (["forget soon", SOON, SOON], 2, errors.LabelTaken), (["saw a 0 0", f"ask {LONG}"], 1, errors.TooMany),
                (["rows", "least day x"], 1, errors.MissingName), (["release quick a b"], 0, errors.MissingPromise)):
            for call in (desk.do_all, desk.attempt):
                found = check_failed(self, desk, "CommandFailed", lambda: call(*commands), position=position)
                self.assertIs(found.__cause__.__class__, cause)
        value = ["saw"]
        self.assertIs(raised(lambda: desk.do_all("rows", value)).__cause__.value, value)

    def test_attempt(self):
        desk = Desk(EMPTY)
        desk.do_all(SOON, "saw a 2 8", "undo")
        ahead = everything(desk)
        self.assertEqual(desk.attempt("redo", "states", "forget soon", "undo", "undo", "undo", "states"),
                         ["saw a 2 8", "soon sure", "-", "forget soon", "saw a 2 8", SOON, "-"])
        self.assertEqual(desk.attempt(), [])
        self.assertEqual(everything(desk), ahead)


class Copies(unittest.TestCase):
    def test_copies_go_on_by_themselves(self):
        desk = Desk(Book([("b", 0, 0)], []))
        desk.do_all(SOON, "saw a 2 8", "forget soon", "undo", "undo")
        other = desk.copy()
        self.assertIsInstance(other, Desk)
        self.assertEqual(everything(other), everything(desk))
        ahead = everything(desk)
        other.do_all("redo", "redo", "saw a 9 9", "promise quick a b")
        self.assertEqual(everything(desk), ahead)
        ahead = everything(other)
        desk.do_all("undo", "watch late le day x day y")
        self.assertEqual(everything(other), ahead)

    def test_again(self):
        desk = Desk(Book([("b", 0, 0)], []))
        desk.do_all(SOON, "saw a 2 8", "undo", "promise quick a b", "forget soon")
        for lines in (desk.lines(), tuple(desk.lines())):
            other = Desk.again(Book([("b", 0, 0)], []), lines)
            self.assertEqual(everything(other), everything(desk))
        self.assertEqual(everything(Desk.again(EMPTY, [])), everything(Desk(EMPTY)))

    def test_lines_that_are_none(self):
        for value in (None, True, 3, "saw a 0 0", {}, {"saw a 0 0": True}, EMPTY):
            self.assertIsNone(self.refused(value).position)
        for value, position in (([None], 0), (["saw a 0 0", "states"], 1), (["saw a 0 0", "undo"], 1), (["saw"], 0),
                                (["saw a 0 0", "saw a 0 0", 3], 2), (("saw a 0 0", ["saw a 0 1"]), 1), (["redo", None], 0)):
            self.assertEqual(self.refused(value).position, position)

    def refused(self, lines):
        found = raised(lambda: Desk.again(EMPTY, lines))
        self.assertIs(found.__class__, errors.InvalidLines)
        return found

    def test_lines_that_fail(self):
        for lines, position, cause in ((["saw a 0 0", "saw a 0 0"], 1, errors.RowThere), (["forget soon"], 0, errors.UnknownLabel),
                                       (["saw a 0 0", "strike a 0 0"] * 150 + ["saw a 0 0"], 300, errors.TooMany)):
            found = raised(lambda: Desk.again(EMPTY, lines))
            self.assertEqual((found.__class__.__name__, found.position), ("CommandFailed", position))
            self.assertIs(found.__cause__.__class__, cause)

    def test_lists_are_new(self):
        desk = Desk(EMPTY)
        desk.do(SOON)
        desk.lines().append("spoiled")
        desk.labels.append("spoiled")
        desk.do_all("rows").append("spoiled")
        self.assertEqual((desk.lines(), desk.labels), ([SOON], ["soon"]))


class Labels(unittest.TestCase):
    def test_in(self):
        desk = Desk(EMPTY)
        desk.do(SOON)
        self.assertIn("soon", desk)
        for value in wrong.ANYTHING + ["late", "Soon", "soon ", ["soon"], ("soon",), b"soon"]:
            self.assertNotIn(value, desk)
            check_missing(self, errors.UnknownLabel, "label", value, lambda: desk.saying(value))
        self.assertEqual(desk.saying("soon"), SAYING)
        desk.do("forget soon")
        self.assertNotIn("soon", desk)
        check_missing(self, errors.UnknownLabel, "label", "soon", lambda: desk.saying("soon"))

    def test_the_value_itself_is_told(self):
        value = ["soon"]
        self.assertIs(raised(lambda: Desk(EMPTY).saying(value)).label, value)

    def test_len(self):
        desk = Desk(EMPTY)
        self.assertEqual(len(desk), 0)
        desk.do_all(SOON, "rows", "saw a 0 0", "undo")
        self.assertEqual(len(desk), 1)


class Trials(unittest.TestCase):
    def desk(self):
        desk = Desk(EMPTY)
        desk.do_all(SOON, "saw a 2 8", "undo")
        return desk

    def test_behind_the_block(self):
        desk = self.desk()
        ahead = everything(desk)
        with Trial(desk) as held:
            self.assertIs(held, desk)
            held.do_all("redo", "forget soon", "saw b 0 0")
            self.assertEqual(desk.do("rows"), "2")
        self.assertEqual(everything(desk), ahead)

    def test_errors_go_on(self):
        desk = self.desk()
        ahead = everything(desk)
        for error in (ValueError, errors.BrokenBook, KeyboardInterrupt):
            with self.assertRaises(error):
                with Trial(desk) as held:
                    held.do("redo")
                    raise error
            self.assertEqual(everything(desk), ahead)
        with self.assertRaises(errors.RowThere):
            with Trial(desk) as held:
                held.do("redo")
                held.do("saw a 2 8")
        self.assertEqual(everything(desk), ahead)

    def test_one_block_behind_the_other(self):
        """Each block begins with the desk as it is then."""
        desk = self.desk()
        trial = Trial(desk)
        desk.do("promise quick a b")
        ahead = everything(desk)
        with trial as held:
            held.do("undo")
        self.assertEqual(everything(desk), ahead)
        desk.do("saw c 0 0")
        ahead = everything(desk)
        with trial as held:
            held.do_all("undo", "undo")
        self.assertEqual(everything(desk), ahead)

    def test_within_one_another(self):
        desk = self.desk()
        ahead = everything(desk)
        with Trial(desk):
            desk.do("redo")
            within = everything(desk)
            with Trial(desk):
                desk.do("undo")
            self.assertEqual(everything(desk), within)
        self.assertEqual(everything(desk), ahead)

    def test_tried(self):
        desk = self.desk()
        ahead = everything(desk)
        self.assertEqual(tried(desk, lambda held: (held is desk, held.do("redo"), held.do("states"))),
                         (True, "saw a 2 8", "soon sure"))
        self.assertEqual(everything(desk), ahead)
        self.assertEqual(tried(desk, len), 1)
        self.assertIs(raised(lambda: tried(desk, lambda held: held.do("saw"))).__class__, errors.InvalidCommand)
        self.assertEqual(everything(desk), ahead)


class BesideAPlainList(unittest.TestCase):
    def command(self, draw, desk):
        """A command, in most cases one that does not fail."""
        rows, promises, sayings = desk.things(desk.deeds)
        row, promise = drawn.row(draw, "ab", 2), drawn.promise(draw, "ab", 3)
        if draw.random() < 0.4:
            row = draw.choice(rows) if rows else row
            promise = draw.choice(promises) if promises else promise
        told = " ".join("-" if part is None else str(part) for part in promise)
        days = " ".join(map(str, row))
        label = draw.choice(["l", "m", "n9", "o"])
        saying = slowtexts.words_of(draw.choice([drawn.saying(draw, 1, 1, "xy"), ("le", ("on", "a", ("num", row[1])), ("num", row[2]))]))
        closed = slowtexts.words_of(drawn.formula(draw, 2, "x", "ab")).replace("day x", f"num {draw.randint(-3, 3)}")
        formula = slowtexts.words_of(drawn.formula(draw, 2, "xy", "ab"))
        return draw.choice([
            f"saw {days}", f"saw {days}", f"strike {days}", f"promise {told}", f"release {told}", f"watch {label} {saying}",
            f"watch {label} {saying}", f"forget {label}", "undo", "undo", "redo", f"state {label}", "states", f"saying {label}",
            f"why {label}", f"ask {saying}", f"least {closed}", f"greatest {closed}", f"slack {formula} {closed}", "rows", "promises"])

    def test_drawn_commands(self):
        draw = random.Random(500)
        answers = {}
        failed = 0
        for _ in range(60):
            log = [drawn.row(draw, "ab", 2) for _ in range(draw.randint(0, 1))]
            desk, plain = Desk(Book(log, [])), slowdesk.SlowDesk(log, [])
            for _ in range(30):
                command = self.command(draw, plain)
                error = plain.error_of(command)
                if error is not None:
                    failed += 1
                    self.assertEqual(raised(lambda: desk.do(command)).__class__.__name__, error, command)
                else:
                    due = plain.do(command)
                    self.assertEqual(desk.do(command), due, command)
                    word = command.split(" ")[0]
                    answers.setdefault(word, set()).add(due)
                self.assertEqual((desk.lines(), len(desk)), (plain.deeds, len(plain.deeds)))
                rows, promises, sayings = plain.things(plain.deeds)
                self.assertEqual((desk.book, desk.labels), (Book(rows, promises), sorted(sayings)))
        self.assertGreater(failed, 200)
        self.assertTrue(all(len(told) > 1 for word, told in answers.items() if word != "forget"))
        self.assertEqual(answers["ask"], {"sure", "never", "maybe", "broken"})

    def test_states_beside_sureness(self):
        """As rows and promises come that hidden Tables keep, what is sure stays sure, and what is never stays so."""
        for draw, lists, log, promises in known_books.kept_books(501, 40, "ab", 5, 4):
            desk = Desk(EMPTY)
            sayings = {f"l{at}": drawn.saying(draw, 1, 2, "x") for at in range(4)}
            for label, saying in sayings.items():
                desk.do(f"watch {label} {slowtexts.words_of(saying)}")
            old = dict(part.split(" ") for part in desk.do("states").split(", "))
            for row in sorted(set(log)):
                desk.do("saw " + " ".join(map(str, row)))
            for promise in sorted(set(promises), key=str):
                desk.do("promise " + " ".join("-" if part is None else str(part) for part in promise))
            new = dict(part.split(" ") for part in desk.do("states").split(", "))
            self.assertIsNone(slow.clash({}, log, promises))
            for label, saying in sayings.items():
                self.assertEqual(new[label], sureness(saying, Book(log, promises), {}))
                self.assertIn(old[label], ("maybe", new[label]))

    def test_limits_are_told_as_too_many(self):
        check_too_many(self, "rows", 24, lambda: Desk(Book([("a", day, day) for day in range(24)], [])).do("saw b 0 0"))


if __name__ == "__main__":
    unittest.main()
