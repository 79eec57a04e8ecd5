"""The errors: their base classes, their attributes and the parameters of their constructors."""

import inspect
import unittest

from leadrules import errors

LISTED = """
ValueError: LeadError()
LeadError: InvalidDay(value) InvalidRule(value) InvalidName(value) InvalidCount(value) InvalidFormula(value)
 InvalidSaying(value) InvalidDays(value) InvalidWorld(value) InvalidAsks(value) InvalidBounds(value)
 InvalidCommand(value) InvalidFormulas(value) InvalidLabel(value) InvalidLength(value) InvalidLines(position)
 InvalidNames(value) InvalidPair(value) InvalidPart(value) InvalidPicture(value) InvalidPlace(value)
 InvalidPlan(value) InvalidPromise(value) InvalidRests(value) InvalidRow(value) InvalidRows(value)
 InvalidRules(value) InvalidServed(value) InvalidStands(value) InvalidTable(value) InvalidTables(value)
 InvalidText(line) InvalidThesis(value) InvalidThing(value) InvalidTree(value) KnownRule(rule) NoTurn(value)
 RingOfParts(part) SamePart(part) SharedPart(part)
LookupError: MissingError()
MissingError: MissingRule(rule) MissingName(name) MissingPart(part) MissingPromise(promise) MissingRow(row)
 UnknownLabel(label)
RuntimeError: StateError()
StateError: BrokenBook() CommandFailed(position) LabelTaken(label) LastPart(part) NothingToRedo() NothingToUndo()
 PromiseThere(promise) RowThere(row)
ArithmeticError: LimitError()
LimitError: TooMany(what,limit)
"""
BASES = {"ValueError": ValueError, "LookupError": LookupError, "RuntimeError": RuntimeError,
         "ArithmeticError": ArithmeticError}


def listed():
    """The list of (base, name, parameters) of all listed errors."""
    found = []
    for word in LISTED.split():
        if word.endswith(":"):
            base = word[:-1]
        else:
            name, rest = word[:-1].split("(")
            found.append((base, name, [part for part in rest.split(",") if part]))
    return found


class Errors(unittest.TestCase):
    def test_all_stand_in_the_file(self):
        own = [name for name, value in vars(errors).items() if inspect.isclass(value)]
        self.assertEqual(sorted(own), sorted(name for _, name, _ in listed()))
        self.assertEqual(len(own), 58)

    def test_one_direct_base_class(self):
        for base, name, _ in listed():
            with self.subTest(name=name):
                error = vars(errors)[name]
                self.assertEqual(error.__module__, "leadrules.errors")
                self.assertEqual(error.__bases__, (BASES.get(base) or vars(errors)[base],))

    def test_attributes_and_parameters(self):
        for _, name, parameters in listed():
            with self.subTest(name=name):
                error = vars(errors)[name]
                values = [object() for _ in parameters]
                if parameters:
                    self.assertEqual(list(inspect.signature(error).parameters), parameters)
                    self.assertIn("__init__", vars(error))
                for made in (error(*values), error(**dict(zip(parameters, values)))):
                    self.assertEqual(sorted(vars(made)), sorted(parameters))
                    for parameter, value in zip(parameters, values):
                        self.assertIs(getattr(made, parameter), value)

    def test_raised_and_caught_by_the_bases(self):
        for error, bases in ((errors.InvalidDay(True), (errors.LeadError, ValueError)),
                             (errors.MissingRule("a"), (errors.MissingError, LookupError)),
                             (errors.BrokenBook(), (errors.StateError, RuntimeError)),
                             (errors.TooMany("rows", 24), (errors.LimitError, ArithmeticError))):
            for base in bases:
                with self.assertRaises(base):
                    raise error


if __name__ == "__main__":
    unittest.main()
