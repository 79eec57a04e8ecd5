"""Which rules are beneath which, and the lows, highs and chains that follow."""

import random
import unittest

from leadrules.beneath import above, beneath, high, high_chain, low, low_chain, quick_pairs, torn
from leadrules.books import Book
from tests import drawn, slow


def quick(*pairs):
    return [("quick", pair[0], pair[1]) for pair in pairs]


class Beneath(unittest.TestCase):
    def test_steps(self):
        book = Book([("g", 0, 1)], quick("ab", "bc", "dc"))
        self.assertEqual({rule: beneath(book, rule) for rule in "abcdgh"},
                         {"a": ["a"], "b": ["a", "b"], "c": ["a", "b", "c", "d"], "d": ["d"], "g": ["g"], "h": ["h"]})
        self.assertEqual({rule: above(book, rule) for rule in "abcdgh"},
                         {"a": ["a", "b", "c"], "b": ["b", "c"], "c": ["c"], "d": ["c", "d"], "g": ["g"], "h": ["h"]})
        self.assertEqual(quick_pairs(book), [("a", "b"), ("a", "c"), ("b", "c"), ("d", "c")])

    def test_rings(self):
        book = Book([], quick("ab", "bc", "ca", "cd"))
        for rule in "abc":
            self.assertEqual(beneath(book, rule), ["a", "b", "c"])
            self.assertEqual(above(book, rule), ["a", "b", "c", "d"])
        self.assertEqual(beneath(book, "d"), ["a", "b", "c", "d"])
        self.assertEqual(above(book, "d"), ["d"])
        self.assertEqual(quick_pairs(book), sorted([(one, other) for one in "abc" for other in "abcd" if one != other]))

    def test_without_promises(self):
        book = Book([("a", 0, 5)], [])
        self.assertEqual((beneath(book, "a"), above(book, "a"), quick_pairs(book), torn(book)), (["a"], ["a"], [], []))
        self.assertEqual([call(book, "a") for call in (low, high, low_chain, high_chain)], [None] * 4)


class Leads(unittest.TestCase):
    def test_low_and_high(self):
        book = Book([], quick("ab", "bc") + [("lead", "a", 2, 9), ("lead", "b", 1, None), ("lead", "c", None, 5),
                                             ("lead", "a", None, 7)])
        self.assertEqual([low(book, rule) for rule in "abcd"], [2, 2, 2, None])
        self.assertEqual([high(book, rule) for rule in "abcd"], [5, 5, 5, None])
        self.assertEqual([low_chain(book, rule) for rule in "abcd"], [["a"], ["a", "b"], ["a", "b", "c"], None])
        self.assertEqual([high_chain(book, rule) for rule in "abcd"], [["a", "b", "c"], ["b", "c"], ["c"], None])
        self.assertEqual(torn(book), [])

    def test_below_and_at_zero(self):
        book = Book([], [("lead", "a", -3, 0), ("lead", "b", 0, None), ("quick", "a", "b")])
        self.assertEqual([low(book, "a"), low(book, "b"), high(book, "a"), high(book, "b")], [-3, 0, 0, None])
        self.assertEqual([low_chain(book, "b"), high_chain(book, "a")], [["b"], ["a"]])

    def test_torn(self):
        self.assertEqual(torn(Book([], [("lead", "b", 4, 3), ("lead", "a", 3, 3)])), ["b"])
        self.assertEqual(torn(Book([], quick("ab", "bc") + [("lead", "a", 4, None), ("lead", "c", None, 3)])),
                         ["a", "b", "c"])
        self.assertEqual(torn(Book([], quick("ab") + [("lead", "b", 4, None), ("lead", "a", None, 3)])), [])
        self.assertEqual(torn(Book([], [("lead", "a", 4, None), ("lead", "a", None, 3), ("lead", "b", 1, 1)])), ["a"])

    def test_chains_of_one_length(self):
        pairs = quick("ac", "bc", "ae", "be", "ed", "cd")
        book = Book([], pairs + [("lead", "a", 1, None), ("lead", "b", 1, None), ("lead", "d", None, 4)])
        self.assertEqual([low_chain(book, rule) for rule in "abcde"],
                         [["a"], ["b"], ["a", "c"], ["a", "c", "d"], ["a", "e"]])
        self.assertEqual([high_chain(book, rule) for rule in "abcde"],
                         [["a", "c", "d"], ["b", "c", "d"], ["c", "d"], ["d"], ["e", "d"]])

    def test_fewest_rules_first(self):
        pairs = quick("ab", "bc", "cd", "fd")
        book = Book([], pairs + [("lead", "a", 3, None), ("lead", "f", 3, None), ("lead", "b", 3, None)])
        self.assertEqual([low_chain(book, "d"), low_chain(book, "c"), low_chain(book, "b")],
                         [["f", "d"], ["b", "c"], ["b"]])
        other = Book([], quick("ab", "bc", "ad") + [("lead", "c", None, 2), ("lead", "d", None, 2)])
        self.assertEqual(high_chain(other, "a"), ["a", "d"])
        # From e the way through a is shorter than that through c and b.
        two_ways = Book([], quick("ad", "bd", "cb", "ea", "ec") + [("lead", "e", 3, None), ("lead", "d", None, 5)])
        self.assertEqual([low_chain(two_ways, "d"), high_chain(two_ways, "e")], [["e", "a", "d"], ["e", "a", "d"]])
        # An own lead with the low shows it alone, also in a ring.
        ring = Book([], quick("ab", "ba") + [("lead", "a", 3, 8), ("lead", "b", 3, None)])
        self.assertEqual([low_chain(ring, "a"), low_chain(ring, "b"), high_chain(ring, "b")], [["a"], ["b"], ["b", "a"]])

    def test_a_lead_that_only_another_rule_has(self):
        # The lead with the same number stands at a rule that is not beneath.
        book = Book([], quick("cb") + [("lead", "a", 3, 3), ("lead", "c", 3, None), ("lead", "b", None, 3)])
        self.assertEqual([low_chain(book, "b"), high_chain(book, "c")], [["c", "b"], ["c", "b"]])


class Slow(unittest.TestCase):
    def test_all_lists_of_rules(self):
        draw = random.Random(51)
        for _ in range(250):
            rules = draw.choice(["ab", "abc", "abcd", "abcdef"])
            promises = [drawn.promise(draw, rules) for _ in range(draw.randint(0, 9))]
            rows = [drawn.row(draw, "abh") for _ in range(draw.randint(0, 2))]
            book = Book(rows, promises)
            for rule in rules + "h":
                self.assertEqual(beneath(book, rule), slow.beneath(promises, rule))
                self.assertEqual(above(book, rule), slow.above(promises, rule))
                self.assertEqual(low(book, rule), slow.low(promises, rule))
                self.assertEqual(high(book, rule), slow.high(promises, rule))
                self.assertEqual(low_chain(book, rule), slow.low_chain(promises, rule))
                self.assertEqual(high_chain(book, rule), slow.high_chain(promises, rule))
            self.assertEqual(torn(book), slow.torn(promises))
            self.assertEqual(quick_pairs(book), [(rule, other) for rule in "abcdefgh"
                                                 for other in slow.above(promises, rule) if other != rule])

    def test_facts_in_worlds_that_keep_the_book(self):
        draw = random.Random(52)
        checked = 0
        while checked < 60:
            lists = drawn.lists(draw, "abc", 2)
            promises = [drawn.promise(draw, "abc") for _ in range(draw.randint(1, 4))]
            span = range(-8, 9)
            if not all(keeps_slowly(lists, promise, span) for promise in promises):
                continue
            checked += 1
            book = Book([], promises)
            self.assertEqual(torn(book), [])
            for rule in "abc":
                for day in span:
                    served = slow.on(lists[rule], day)
                    self.assertTrue(low(book, rule) is None or day + low(book, rule) <= served)
                    self.assertTrue(high(book, rule) is None or served <= day + high(book, rule))


def keeps_slowly(lists, promise, span):
    """Whether lists of days keep a promise, day by day."""
    if promise[0] == "quick":
        return all(slow.on(lists[promise[1]], day) <= slow.on(lists[promise[2]], day) for day in span)
    leads = [slow.on(lists[promise[1]], day) - day for day in span]
    return (promise[2] is None or promise[2] <= min(leads)) and (promise[3] is None or max(leads) <= promise[3])


if __name__ == "__main__":
    unittest.main()
