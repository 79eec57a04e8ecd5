"""Commands and deeds by their words."""

import random
import unittest

from leadrules.commands import is_command, is_deed
from tests import drawn, slowtexts, wrong
from tests.test_formulas import tower
from tests.test_sayings import nots

DEEDS = ["saw a 3 9", "strike b -3 0", "promise lead a 1 -", "promise quick a b", "release lead h - -7", "release quick c a",
         "watch soon le on a day x num 4", "watch a1234567 not le num 0 num 1", "forget soon"]
OTHERS = ["undo", "redo", "state soon", "states", "saying late", "why z9", "ask le day x day x", "least on a num 7",
          "greatest num 0", "slack day x on a day x", "rows", "promises"]
SAID = "le day x num 3"
# A pattern for each command; the signs stand for what may stand there.
PATTERNS = ["saw R D D", "strike R D D", "promise lead R B B", "promise quick R R", "release lead R B B", "release quick R R",
            "watch L S", "forget L", "undo", "redo", "state L", "states", "saying L", "why L", "ask S", "least F", "greatest F",
            "slack F F", "rows", "promises"]
RIGHT = {"R": ["a", "h", "c"], "D": ["0", "-1", "7", "999999999999", "-999999999999", "120"],
         "B": ["-", "0", "-1", "7", "999999999999", "-999999999999"], "L": ["a", "z9", "soon", "abcdefgh", "a0000000"],
         "S": [SAID, "not " + SAID, "or le num 1 num 2 and " + SAID + " " + SAID], "F": ["day x", "num -4", "late on a day x num 3"]}
SPOILT = {"R": ["i", "A", "x", "ab", "", "1", "-"], "D": ["-0", "00", "07", "+1", "x", "", "-", "1.0", "1234567890123",
                                                       "-1234567890123", "1000000000000"],
          "B": ["-0", "00", "07", "+1", "x", "", "--", "1234567890123", "-1234567890123", "None"],
          "L": ["A", "1a", "9", "abcdefghi", "", "a-b", "a_b", "so on", "sooN", "-"],
          "S": ["day x", "le day x", SAID + " num 1", "", "le  day x num 3", "Le day x num 3", "le day x num 03", "le day a num 3"],
          "F": [SAID, "on a", "day x num 1", "", "day a", "on i day x", "num -0", "day  x", "late day x"]}


def filled(draw, pattern, spoil=None):
    """A command of a pattern; the word at a place spoilt, or none."""
    words = [draw.choice((SPOILT if at == spoil else RIGHT)[sign]) if sign in RIGHT else sign
             for at, sign in enumerate(pattern.split(" "))]
    return " ".join(words)


class Commands(unittest.TestCase):
    def test_commands_and_deeds(self):
        for value in DEEDS:
            self.assertIs(is_command(value), True)
            self.assertIs(is_deed(value), True)
        for value in OTHERS:
            self.assertIs(is_command(value), True)
            self.assertIs(is_deed(value), False)

    def test_none(self):
        for value in wrong.NOT_COMMANDS + wrong.NOT_TEXTS + wrong.ANYTHING:
            self.assertIs(is_command(value), False)
            self.assertIs(is_deed(value), False)

    def test_blanks_and_more_words(self):
        for value in DEEDS + OTHERS:
            for other in (value + " ", " " + value, value + "\n", value + " 1", value.replace(" ", "  ", 1) + " ", value.upper(),
                          value.split(" ")[0] + "s " + value, value.capitalize()):
                self.assertIs(is_command(other), False, other)
            if " " in value:
                self.assertIs(is_command(value.replace(" ", "  ", 1)), False)
                self.assertIs(is_command(value.replace(" ", "\t", 1)), False)
                self.assertIs(is_command(value.replace(" ", "\n", 1)), False)
                self.assertIs(is_command(value.split(" ")[0]), False)

    def test_each_word_spoilt(self):
        draw = random.Random(460)
        deeds = ("saw", "strike", "promise", "release", "watch", "forget")
        for pattern in PATTERNS:
            words = pattern.split(" ")
            for _ in range(30):
                value = filled(draw, pattern)
                # Not both bounds are none, and two rules are unlike.
                if "- -" not in value and value.split(" ")[-2:][0] != value.split(" ")[-1]:
                    self.assertIs(is_command(value), True, value)
                    self.assertIs(is_deed(value), words[0] in deeds)
            for at, sign in enumerate(words):
                if sign not in RIGHT:
                    for bad in ("", sign[1:], sign.upper(), sign + "s", "leads", "quicks"):
                        other = [RIGHT[part][0] if part in RIGHT else part for part in words]
                        other[at] = bad
                        if " ".join(other) not in ("states", "rows", "promises"):
                            self.assertIs(is_command(" ".join(other)), False, other)
                for _ in range(30 if sign in RIGHT else 0):
                    value = filled(draw, pattern, at)
                    if sign != "F" or "slack" not in pattern:
                        self.assertIs(is_command(value), False, value)

    def test_bounds_and_rules(self):
        for word in ("promise", "release"):
            self.assertIs(is_command(f"{word} lead a - -"), False)
            self.assertIs(is_command(f"{word} lead a 5 2"), True)
            self.assertIs(is_command(f"{word} quick a a"), False)
            self.assertIs(is_command(f"{word} quick a"), False)
            self.assertIs(is_command(f"{word} quick a b c"), False)
            self.assertIs(is_command(f"{word} lead a 1"), False)
            self.assertIs(is_command(f"{word} lead a 1 2 3"), False)
            for other in ("slow a b", "quick a 1 2", "slow a 1 2", "quick a - 2", "lead a b", "lead a b 1", "lead a 1 b"):
                self.assertIs(is_command(f"{word} {other}"), False)

    def test_digits(self):
        for sign in ("", "-"):
            self.assertIs(is_command(f"saw a {sign}{'9' * 12} 0"), True)
            self.assertIs(is_command(f"saw a {sign}{'9' * 13} 0"), False)
            self.assertIs(is_command(f"strike a 0 {sign}{'1' * 12}"), True)
            self.assertIs(is_command(f"strike a 0 {sign}1{'0' * 12}"), False)
            self.assertIs(is_command(f"promise lead a {sign}{'9' * 12} -"), True)
            self.assertIs(is_command(f"promise lead a {sign}{'9' * 13} -"), False)
            self.assertIs(is_command(f"release lead a - {sign}{'9' * 13}"), False)

    def test_very_long_numbers(self):
        """Judges never raise an error, also where Python reads no such number."""
        for digits in (4000, 5000, 50000):
            for value in (f"ask le num {'9' * digits} num 0", f"saw a {'9' * digits} 0", f"promise lead a - {'9' * digits}"):
                self.assertIn(is_command(value), (True, False))

    def test_labels(self):
        for label, due in (("a", True), ("abcdefgh", True), ("abcdefghi", False), ("a1", True), ("1a", False), ("A", False),
                           ("", False), ("a b", False), ("a-", False), ("z9999999", True), ("z99999999", False)):
            for value in (f"watch {label} {SAID}", f"forget {label}", f"state {label}", f"saying {label}", f"why {label}"):
                self.assertIs(is_command(value), due, value)

    def test_pieces(self):
        formula, saying = [slowtexts.words_of(told) for told in (tower(59), nots(57))]
        for value in (f"least {formula}", f"greatest {formula}", f"slack {formula} {formula}", f"ask {saying}", f"watch l {saying}"):
            self.assertIs(is_command(value), True)
        for value in (f"least add 1 {formula}", f"greatest add 1 {formula}", f"slack add 1 {formula} day x",
                      f"slack day x add 1 {formula}", f"ask not {saying}", f"watch l not {saying}", "ask " + "not " * 900 + SAID):
            self.assertIs(is_command(value), False)

    def test_two_formulas_one_behind_the_other(self):
        draw = random.Random(461)
        for _ in range(100):
            both = [slowtexts.words_of(drawn.formula(draw, 3)) for _ in range(2)]
            self.assertIs(is_command("slack " + " ".join(both)), True)
            self.assertIs(is_command("slack " + both[0]), False)
            self.assertIs(is_command("slack " + " ".join(both + both[:1])), False)
            self.assertIs(is_command("least " + " ".join(both)), False)
            self.assertIs(is_command("slack " + " ".join(both)[:-1] + "_"), False)


if __name__ == "__main__":
    unittest.main()
