"""What holds for all functions and methods alike: names, errors, and that nothing passed is changed."""

import copy
import inspect
import unittest

from leadrules import (answers, asks, basics, beside, books, bounds, commands, daylists, desk, either, formulas, known,
                       laid, leastways, legs, loose, papers, pictures, plans, promised, readers, reasons, rests, sayings,
                       slack, sure, tables, texts, trees, turns, verdicts)
from leadrules.books import Book
from leadrules.desk import Desk, Trial
from leadrules.tables import Table
from tests import calendar_cases, cases, plan_cases, proof_cases, sure_cases, text_cases
from tests.wrong import ANYTHING, check_refused, raised

# Errors of parameters that hang on another parameter, so that one wrong value is due ahead of it.
SEQUENCES = {
    "trimmed": ["saying", "picture", "book"],
    "told_out": ["saying", "calendars", "picture"],
}

INTERFACE = {
    "basics": "is_day(value) is_count(value) is_rule(value) is_name(value) is_days(value)",
    "tables": "is_table(value) is_world(value)",
    "joined": "behind(table,other_table) later(table,other_table) sooner(table,other_table)"
              " first_above(table,other_table) most_above(table,other_table) first_parting(table,other_table)"
              " times(table,count) run_of(table,day,count) run_end(table,day,count) through(tables,day)"
              " reach(table,day,goal) rounds(table) round_of(table,day) pace(table) earliest_with(count,rows)"
              " latest_with(count,rows)",
    "formulas": "is_formula(value) day_of(formula,days,world) is_chain(value) rows_of(formula) woven(rows)"
                " last_day(formula,day,world) first_day(formula,day,world)",
    "sayings": "is_saying(value) holds(saying,days,world) pieces(told) names_of(told) rules_of(told)"
               " put(told,name,formula) with_rules(told,rules) with_names(told,names) pushed(saying)"
               " contrary(saying) positive(saying) ways(saying) plain(told)",
    "turning": "turned_down(formula,name) turned_up(formula,name) freed(saying,name)",
    "books": "",
    "beneath": "beneath(book,rule) above(book,rule) low(book,rule) high(book,rule) low_chain(book,rule)"
               " high_chain(book,rule) torn(book) quick_pairs(book)",
    "pictures": "is_picture(value,book) clash(value,book) places(picture,book)"
                " joined_pictures(picture,other_picture,book) asks_of(world,days,formula)"
                " picture_of(world,days,saying) keeps(world,book) agrees(world,picture,book)",
    "laid": "base(picture,book,rule) laid_on(picture,book,rule,day) laid_by(picture,book,rule,day)"
            " laid_til(picture,book,rule,day) laid_days(picture,book,rule,day,many)"
            " laid_value(picture,book,formula) laid_holds(picture,book,saying) is_break(value,saying,book)"
            " trimmed(picture,saying,book)",
    "daylists": "days_of(saying) places_of(saying,book)",
    "bounds": "bounds_of(saying,book) opened(saying) pair_ways(place,other_place) cross_ways(place,other_place)",
    "leastways": "least_days(many,bounds) are_kept(bounds,value) ring_of(many,bounds) is_ring(bounds,value)",
    "trees": "tree(saying,book) is_tree(value,saying,book) size(paper) rings(paper) is_spare(paper,saying,book)"
             " shorter(paper,saying,book)",
    "verdicts": "verdict(saying,book) broken(saying,book)",
    "slack": "slack_saying(first,second,number) least_slack(first,second,book) span(first,second,book)"
             " slack_tree(first,second,book) farthest(first,second,book) is_farthest(value,first,second,book)"
             " slack_table(formulas,book)",
    "loose": "loose(first,second,book) is_loose(value,first,second,book) stand_of(stands,many) tracks_of(stands)"
             " is_steady(value,book) reading(stands,book,formula)",
    "either": "either_saying(first,second,third,fourth,pair) either_slack(first,second,third,fourth,book,most)"
              " either_breaks(first,second,third,fourth,book,most)",
    "sure": "is_broken(book) broken_paper(book) is_broken_paper(value,book) put_in(told,days)"
            " sureness(saying,book,days) sure_paper(saying,book,days) is_sure_paper(value,saying,book,days)"
            " foretold(row,saying,book,days)",
    "answers": "least_answer(formula,book,days) greatest_answer(formula,book,days) giving(formula,day,book,days)"
               " is_giving(value,formula,day,book,days) possible(formula,day,book,days)"
               " possible_days(formula,day,many,book,days) last_sure(formula,day,book) last_hope(formula,day,book)",
    "reasons": "enough(rows,saying,book) first_reason(saying,book) all_reasons(saying,book)"
               " is_reason(value,saying,book) needed_rows(saying,book) reason_paper(saying,book)"
               " is_reason_paper(value,saying,book) first_quarrel(book) is_quarrel(value,book)"
               " first_cause(saying,book) is_cause(value,saying,book)",
    "promised": "follows(promise,book) follow_saying(promise) needless(book) slim(book) sure_lead(book,rule)"
                " quicker(book)",
    "rests": "calendar_length(calendars) read_days(saying,book,calendars) known_bounds(saying,book,calendars)"
             " rest_bounds(saying,book,calendars,day,rest)",
    "legs": "leg_sum(leg,length,rests) legs_of(many,bounds,length,rests) is_legs(many,bounds,length,rests,value)"
            " rested_days(many,bounds,length,rests) are_rested_days(many,bounds,length,rests,value)",
    "known": "known_value(picture,book,calendars,formula) known_holds(picture,book,calendars,saying)"
             " known_verdict(saying,book,calendars) known_tree(saying,book,calendars)"
             " is_known_tree(value,saying,book,calendars) known_broken(saying,book,calendars)"
             " is_known_break(value,saying,book,calendars) known_sureness(saying,book,calendars,days)"
             " told_out(picture,saying,book,calendars) period_rows(rule,table,day,many)",
    "plans": "is_plan(value) taken_in(plan,part) in_sequence(plan) plan_rules(plan,part) plan_formula(plan,part)"
             " ready(plan,part,day,world) all_ready(plan,day,world) waited_for(plan,part,day,world)"
             " without_part(plan,other) with_delay(plan,part,many) followed(plan,part,other_plan)",
    "beside": "later_saying(plan,part,other_plan,other_part) never_later(plan,part,other_plan,other_part,book)"
              " most_later(plan,part,other_plan,other_part,book) left_saying(plan,part,other)"
              " decides(plan,part,other,book) deciding(plan,part,book) spare_days(plan,part,other,most,book)",
    "turns": "last_start(plan,part,name) first_start(plan,part,name) last_start_in(plan,part,day,world)"
             " first_start_in(plan,part,day,world) dues(plan,part,day,world) room(plan,part,start,day,world)"
             " sure_start(plan,part,day,book) open_start(plan,part,day,book) ready_between(plan,part,start,book)",
    "asks": "settling(asks,saying,book) settles(asks,saying,book) parting(asks,saying,book)"
            " is_parting(value,asks,saying,book) least_lots(menu,saying,book) answered(asks,served,saying,book)",
    "texts": "written(thing) picture_text(picture) tree_text(tree) words_of(thing)",
    "readers": "read(text) read_picture(text) read_tree(text)",
    "papers": "words() is_thesis(value) is_true(thesis) contrary_thesis(thesis) paper_of(thesis) is_paper(thesis,value)",
    "commands": "is_command(value) is_deed(value)",
    "desk": "tried(desk,action)",
}
TABLE_METHODS = ("days() asked_rows() on(day) by(day) til(day) answers(day,count) is_served(day) leads() mean_lead()"
                 " fixed_days() moved(day) asked_later(day) by_table() til_table() stretched(count) shortest()"
                 " is_same(other_table) __call__(day) __init__(days)")
BOOK_METHODS = ("with_row(row) without_row(row) with_promise(promise) without_promise(promise) joined(book)"
                " rows_of(rule) __init__(log,promises)")
DESK_METHODS = ("__init__(book) __len__() __contains__(label) __call__(command) saying(label) do(command)"
                " do_all(commands) attempt(commands) lines() copy()")
TRIAL_METHODS = "__init__(desk) __enter__() __exit__(kind,value,trace)"


def later_cases():
    """The cases of the functions that tell papers."""
    return (proof_cases.all_cases() + sure_cases.all_cases() + calendar_cases.all_cases() + plan_cases.all_cases()
            + text_cases.all_cases())


def calls(text):
    """The list of (name, parameters) of a line of the interface."""
    return [(word[:-1].split("(")[0], [part for part in word[:-1].split("(")[1].split(",") if part])
            for word in text.split()]


def content(value):
    """What a value holds, with the order of keys, and what Tables and Books hold."""
    if isinstance(value, Table):
        return ("Table", value.days())
    if isinstance(value, Book):
        return ("Book", value.log, value.promises)
    if isinstance(value, dict):
        return ("dict", [(key, content(value[key])) for key in value])
    if isinstance(value, (list, tuple)):
        return (value.__class__.__name__, [content(part) for part in value])
    return value


def spoil(value):
    """Change all lists and dicts in a value, inside tuples too."""
    if isinstance(value, dict):
        for part in list(value.values()):
            spoil(part)
        value["spoiled"] = True
    elif isinstance(value, list):
        for part in value:
            spoil(part)
        value.append("spoiled")
    elif isinstance(value, tuple):
        for part in value:
            spoil(part)


def dicts_in(value):
    """All dicts in a value."""
    found = [value] if isinstance(value, dict) else []
    parts = list(value.values()) if isinstance(value, dict) else value if isinstance(value, (list, tuple)) else []
    for part in parts:
        found.extend(dicts_in(part))
    return found


def judges():
    """All judges, told the parameters behind value."""
    saying, book, first, second = proof_cases.so(), proof_cases.book(), proof_cases.SERVED, cases.X
    return [basics.is_day, basics.is_count, basics.is_rule, basics.is_name, basics.is_days, tables.is_table,
            tables.is_world, formulas.is_formula, formulas.is_chain, sayings.is_saying,
            lambda value: pictures.is_picture(value, cases.book()),
            lambda value: laid.is_break(value, cases.broken(), cases.book()),
            lambda value: leastways.are_kept([(0, 1, 3)], value), lambda value: leastways.is_ring([(0, 0, -1)], value),
            lambda value: trees.is_tree(value, saying, book),
            lambda value: slack.is_farthest(value, first, second, book),
            lambda value: loose.is_loose(value, first, second, book), lambda value: loose.is_steady(value, book),
            lambda value: sure.is_broken_paper(value, sure_cases.broken_book()),
            lambda value: sure.is_sure_paper(value, saying, book, {"x": 3}),
            lambda value: answers.is_giving(value, first, 8, book, {"x": 4}),
            lambda value: reasons.is_reason(value, saying, book),
            lambda value: reasons.is_reason_paper(value, saying, book),
            lambda value: reasons.is_quarrel(value, sure_cases.broken_book()),
            lambda value: reasons.is_cause(value, saying, book)] + later_judges()


def later_judges():
    """The judges of calendars, plans, asks, theses and commands, told the parameters ahead of value or behind it."""
    saying, book, week = calendar_cases.even(), Book([], []), {"c": Table([0, 2])}
    rested = (3, [(1, 0, 6), (0, 1, -6), (2, 1, 4)], 7, {2: 3, 0: 0, 1: 5})
    theses = [thesis for pair in text_cases.theses() for thesis in pair]
    return [lambda value: legs.is_legs(*rested, value), lambda value: legs.are_rested_days(*rested, value),
            lambda value: known.is_known_tree(value, saying, book, week),
            lambda value: known.is_known_break(value, ("not", saying), book, week), plans.is_plan,
            lambda value: asks.is_parting(value, [("a", 3)], ("le", cases.X, ("on", "a", cases.X)), book),
            papers.is_thesis, commands.is_command, commands.is_deed] + [
        lambda value, thesis=thesis: papers.is_paper(thesis, value) for thesis in theses]


class Names(unittest.TestCase):
    def test_functions_stand_in_their_files(self):
        modules = (basics, books, formulas, laid, pictures, sayings, tables, cases.joined, cases.turning, cases.beneath,
                   daylists, bounds, leastways, trees, verdicts, slack, loose, either, sure, answers, reasons, promised,
                   rests, legs, known, plans, beside, turns, asks, texts, readers, papers, commands, desk)
        self.assertEqual(sorted(module.__name__.split(".")[1] for module in modules), sorted(INTERFACE))
        for module in modules:
            short = module.__name__.split(".")[1]
            for name, parameters in calls(INTERFACE[short]):
                with self.subTest(module=short, name=name):
                    function = vars(module)[name]
                    self.assertTrue(inspect.isfunction(function))
                    self.assertEqual(function.__module__, module.__name__)
                    self.assertEqual(list(inspect.signature(function).parameters), parameters)

    def test_methods_stand_in_their_classes(self):
        for owner, text in ((Table, TABLE_METHODS), (Book, BOOK_METHODS), (Desk, DESK_METHODS), (Trial, TRIAL_METHODS)):
            for name, parameters in calls(text):
                with self.subTest(owner=owner.__name__, name=name):
                    self.assertEqual(list(inspect.signature(vars(owner)[name]).parameters), ["self"] + parameters)
        self.assertEqual((Table.__module__, Book.__module__), ("leadrules.tables", "leadrules.books"))
        self.assertEqual((Desk.__module__, Trial.__module__), ("leadrules.desk", "leadrules.desk"))

    def test_properties_and_class_values(self):
        self.assertIsInstance(vars(Table)["length"], property)
        for name in ("log", "promises", "rules"):
            self.assertIsInstance(vars(Book)[name], property)
        for name in ("book", "labels"):
            self.assertIsInstance(vars(Desk)[name], property)
        self.assertIsInstance(vars(Desk)["again"], classmethod)
        self.assertEqual(str(inspect.signature(Desk.again)), "(book, lines)")
        self.assertIsInstance(vars(Table)["plain"], classmethod)
        self.assertEqual(str(inspect.signature(Table.plain)), "(count=1)")
        self.assertEqual(Table.MOST_LENGTH, 600)
        for owner, names in ((Table, ("__eq__", "__repr__")), (Book, ("__eq__",))):
            for name in names:
                self.assertIn(name, vars(owner))

    def test_each_function_has_a_case(self):
        named = {case["call"].__name__ for case in cases.function_cases() + later_cases()}
        for text in INTERFACE.values():
            for name, _ in calls(text):
                self.assertIn(name, named)


class Alike(unittest.TestCase):
    def each(self, check):
        """Make a check of each case."""
        for case in cases.all_cases() + later_cases():
            label = getattr(case["call"], "__name__", "call")
            with self.subTest(call=label):
                check(label, case)

    def test_by_position_and_by_name(self):
        def check(_, case):
            arguments = case["arguments"]
            self.assertEqual(content(case["call"](**arguments)), content(case["call"](*arguments.values())))

        self.each(check)

    def test_wrong_values(self):
        def check(_, case):
            for name, (error, values) in case["wrong"].items():
                for value in values:
                    check_refused(self, error, value, lambda: case["call"](**dict(case["arguments"], **{name: value})))

        self.each(check)

    def test_first_error_first(self):
        def check(label, case):
            names = [name for name in SEQUENCES.get(label, list(case["arguments"])) if name in case["wrong"]]
            for at, first in enumerate(names):
                for second in names[at + 1:]:
                    error, values = case["wrong"][first]
                    others = case["wrong"][second][1]
                    for value, other in ((values[0], others[0]), (values[1], others[-1]), (values[-1], others[1])):
                        wrongs = {first: value, second: other}
                        check_refused(self, error, value, lambda: case["call"](**dict(case["arguments"], **wrongs)))

        self.each(check)

    def test_nothing_passed_is_changed(self):
        def check(_, case):
            held = getattr(case["call"], "__self__", None)
            ahead = content(case["arguments"]), content(held)
            result = case["call"](**case["arguments"])
            self.assertEqual((content(case["arguments"]), content(held)), ahead)
            spoil(result)
            self.assertEqual((content(case["arguments"]), content(held)), ahead)

        self.each(check)

    def test_what_is_returned_is_new(self):
        def check(_, case):
            first = case["call"](**case["arguments"])
            told = content(copy.deepcopy(first) if not isinstance(first, (Table, Book)) else first)
            spoil(first)
            self.assertEqual(content(case["call"](**case["arguments"])), told)

        self.each(check)

    def test_returned_keys_are_sorted(self):
        def check(_, case):
            for table in dicts_in(case["call"](**case["arguments"])):
                self.assertEqual(list(table), sorted(table))

        self.each(check)

    def test_order_of_passed_keys_has_no_effect(self):
        def turned(value):
            if isinstance(value, dict):
                return {key: turned(value[key]) for key in reversed(list(value))}
            if isinstance(value, tuple):
                return tuple(turned(part) for part in value)
            return [turned(part) for part in value] if isinstance(value, list) else value

        def check(_, case):
            other = {name: turned(value) for name, value in case["arguments"].items()}
            self.assertEqual(content(case["call"](**other)), content(case["call"](**case["arguments"])))

        self.each(check)

    def test_tuples_in_the_place_of_lists(self):
        def as_tuples(value):
            if isinstance(value, dict):
                return {key: as_tuples(value[key]) for key in value}
            return tuple(as_tuples(part) for part in value) if isinstance(value, (list, tuple)) else value

        def check(_, case):
            # A contrary thesis has its parts as they were passed.
            if case["call"] is not papers.contrary_thesis:
                other = {name: as_tuples(value) for name, value in case["arguments"].items()}
                self.assertEqual(content(case["call"](**other)), content(case["call"](**case["arguments"])))

        self.each(check)


class Judges(unittest.TestCase):
    def test_judges_take_any_value(self):
        loop = []
        loop.append(loop)
        knot = {}
        knot["x"] = knot
        nested = ("day", "x")
        for _ in range(5000):
            nested = ("add", 1, nested)
        for value in ANYTHING + [loop, knot, (loop, loop), ("on", "a", loop), ({}, {"a": loop}), nested,
                                 ("not", ("le", nested, nested)), 10 ** 400, "x" * 5000, list(range(5000))]:
            for judge in judges():
                self.assertIn(judge(value), (True, False))
                self.assertIsInstance(judge(value), bool)

    def test_judges_do_not_ask_the_values_themselves(self):
        class Loud:
            """Whatever is done with it raises an error."""

            def fail(self, *_):
                raise RuntimeError("asked")

            __eq__ = __ne__ = __lt__ = __le__ = __gt__ = __ge__ = __hash__ = __len__ = __iter__ = __bool__ = fail
            __getitem__ = __contains__ = __add__ = __sub__ = __index__ = __str__ = __repr__ = fail

        loud, x = Loud(), ("day", "x")
        values = [loud, [loud], (loud,), {"x": loud}, {"a": loud}, (loud, "x"), ("day", loud), ("num", loud),
                  ("on", loud, x), ("on", "a", loud), ("add", loud, x), ("late", x, loud), ("le", loud, x),
                  ("and", ("le", x, x), loud), ("not", loud), ({}, loud), (loud, {}), ({"x": loud}, {}),
                  ({}, {"a": loud}), ({}, {"a": [loud]}), ({}, {"a": [(loud, 1)]}), ({}, {"a": [(0, 1), (2, loud)]}),
                  [0, loud], [loud, 0], ("lead", "a", loud, None), ("quick", "a", loud), ("a", loud, 0)]
        for judge in judges():
            for value in values:
                self.assertIs(judge(value), False)
        for value in values:
            self.assertEqual(raised(lambda: Book([value], [])).__class__.__name__, "InvalidRow")
            self.assertEqual(raised(lambda: Book([], [value])).__class__.__name__, "InvalidPromise")
            self.assertFalse(Table([0]) == value or Book([], []) == value)


if __name__ == "__main__":
    unittest.main()
