"""[22]: the best rules for a flag, and the best checks for a rule."""

import random
import unittest
from fractions import Fraction

from tests.helpers import HOWS, KINDS, in_good_time, plain_bodies, plain_unseen, rules, some_rules, words
from unseenflips.best import best_checks, cheapest, clean_rules
from unseenflips.checks import Check
from unseenflips.clean import is_clean
from unseenflips.costs import rate
from unseenflips.rules import Rule
from unseenflips.unseen import first_unseen

# A walk that never ends shall not keep the tests.
SECONDS = 120
ONES, PLAIN = Rule("01110", [("11", "0")]), Rule("01110")


def is_spoiled(rule, longest):
    """Whether a flag comes too early in the line for a message of so many bits at most."""
    return any((line + rule.flag).index(rule.flag) != len(line) for line in plain_bodies(rule, longest).values())


class CleanRules(unittest.TestCase):
    def setUp(self):
        self.enterContext(in_good_time(SECONDS))

    def test_by_hand(self):
        for flag, size, expected in [
                ("11", 1, ("flag 11 put 1:0",)), ("11", 3, ("flag 11 put 1:0",)), ("00", 2, ("flag 00 put 0:1",)),
                ("01", 3, ()), ("10", 3, ()), ("010", 1, ()), ("010", 2, ("flag 010 put 01:1",)),
                ("011", 2, ("flag 011 put 01:0", "flag 011 put 1:0")), ("01110", 0, ()),
                ("01110", 1, ("flag 01110 put 1:0",)),
                ("01110", 2, ("flag 01110 put 01:0", "flag 01110 put 11:0", "flag 01110 put 1:0"))]:
            self.assertEqual(clean_rules(flag, size), expected)

    def test_ascending(self):
        # The order is that of the texts, in which a colon stands behind a digit.
        self.assertEqual(clean_rules("01110", 3), (
            "flag 01110 put 011:0", "flag 01110 put 01:0", "flag 01110 put 11:0", "flag 01110 put 1:0"))
        for flag in words(5, 2):
            for told in [clean_rules(flag, 3), cheapest(flag, 3)]:
                self.assertEqual(told, tuple(sorted(set(told))))

    def test_tried(self):
        for flag in words(5, 2):
            told = clean_rules(flag, 3)
            tried = [str(rule) for rule in rules(flag, 1, 3) if not is_spoiled(rule, 9)]
            self.assertEqual(told, tuple(sorted(tried)))

    def test_sizes(self):
        for flag in words(5, 2):
            for size in range(5):
                expected = sorted(str(rule) for rule in rules(flag, 1, size) if is_clean(rule))
                self.assertEqual(clean_rules(flag, size), tuple(expected))

    def test_texts_of_rules_with_one_stuff(self):
        for flag in words(4, 2):
            for text in clean_rules(flag, 3):
                rule = Rule.read(text)
                self.assertEqual((str(rule), rule.flag, len(rule), is_clean(rule)), (text, flag, 1, True))

    def test_exchanged(self):
        for flag in words(5, 2):
            for work in [clean_rules, cheapest]:
                other = flag.translate(str.maketrans("01", "10"))
                exchanged = sorted(str(Rule.read(text).swapped()) for text in work(flag, 3))
                self.assertEqual(work(other, 3), tuple(exchanged))


class Cheapest(unittest.TestCase):
    def setUp(self):
        self.enterContext(in_good_time(SECONDS))

    def test_by_hand(self):
        for flag, size, expected in [
                ("11", 1, ("flag 11 put 1:0",)), ("01", 3, ()), ("01110", 0, ()), ("01110", 1, ("flag 01110 put 1:0",)),
                ("01110", 2, ("flag 01110 put 11:0",)), ("01111", 3, ("flag 01111 put 111:0",)),
                ("01110", 3, ("flag 01110 put 011:0", "flag 01110 put 11:0"))]:
            self.assertEqual(cheapest(flag, size), expected)

    def test_those_with_the_least_rate(self):
        several = 0
        for flag in words(5, 2):
            for size in range(4):
                rates = {text: Fraction(*rate(Rule.read(text))) for text in clean_rules(flag, size)}
                expected = tuple(text for text in sorted(rates) if rates[text] == min(rates.values()))
                self.assertEqual(cheapest(flag, size), expected)
                several += len(expected) > 1
        self.assertGreater(several, 5)


class BestChecks(unittest.TestCase):
    def setUp(self):
        self.enterContext(in_good_time(SECONDS))

    def test_by_hand(self):
        for rule in [ONES, PLAIN]:
            for how in HOWS:
                self.assertEqual(best_checks(rule, 0, ["turn"], 1, how), ("1",))
                self.assertEqual(best_checks(rule, 1, ["turn"], 1, how), ("11",))
        # Each polynomial of two ones and more sees each single bit that is turned.
        self.assertEqual(best_checks(PLAIN, 2, ["turn"], 1, "same"), ("101", "111"))
        self.assertEqual(best_checks(PLAIN, 3, ["turn"], 1, "same"), ("1001", "1011", "1101", "1111"))
        # Two bits that are turned are not seen from two ones at the distance 2 on, or of three ones at 3.
        self.assertEqual([first_unseen(PLAIN, Check(poly), ["turn"], 2, "same") for poly in ("101", "111")], [1, 2])
        self.assertEqual(best_checks(PLAIN, 2, ["turn"], 2, "same"), ("111",))
        self.assertEqual([first_unseen(PLAIN, Check(poly), ["turn"], 2, "same") for poly in ("1001", "1011")], [1, 5])
        self.assertEqual(best_checks(PLAIN, 3, ["turn"], 2, "same"), ("1011", "1101"))

    def test_never_is_the_greatest(self):
        for rule, kinds, how, sizes, expected in [
                (Rule("00"), ["double"], "shift", [None, 3], ("101",)),
                (Rule("110", [("10", "0")]), ["turn"], "shift", [None, 6], ("101",)),
                (Rule("0101", [("01", "1"), ("11", "0")]), ["turn"], "shift", [None, 1], ("101",)),
                (Rule("10101", [("001", "1"), ("111", "0")]), ["turn"], "same", [3, None], ("111",))]:
            self.assertEqual([first_unseen(rule, Check(poly), kinds, 1, how) for poly in ("101", "111")], sizes)
            self.assertEqual(best_checks(rule, 2, kinds, 1, how), expected)

    def test_all_of_them_never(self):
        self.assertEqual(best_checks(ONES, 2, [], 1, "any"), ("101", "111"))
        self.assertEqual(best_checks(ONES, 3, KINDS, 0, "any"), ("1001", "1011", "1101", "1111"))
        self.assertEqual(best_checks(ONES, 0, [], 0, "cut"), ("1",))

    def test_ranked(self):
        chance = random.Random(90)
        unlike = 0
        for rule in some_rules(80, 91, 5, 3):
            kinds, hits = chance.sample(KINDS, chance.randint(0, 3)), chance.randint(0, 2)
            for how in HOWS:
                for degree, polys in [(0, ["1"]), (1, ["11"]), (2, ["101", "111"]),
                                      (3, ["1001", "1011", "1101", "1111"])]:
                    sizes = {poly: first_unseen(rule, Check(poly), kinds, hits, how) for poly in polys}
                    ranks = {poly: 10 ** 6 if size is None else size for poly, size in sizes.items()}
                    expected = tuple(poly for poly in polys if ranks[poly] == max(ranks.values()))
                    self.assertEqual(best_checks(rule, degree, kinds, hits, how), expected)
                    unlike += len(expected) < len(polys)
        self.assertGreater(unlike, 50)

    def test_tried(self):
        chance = random.Random(92)
        for rule in some_rules(40, 93, 5, 3):
            kinds, hits = chance.sample(KINDS, 2), chance.randint(0, 2)
            tried = {}
            for poly in ["101", "111"]:
                for how in HOWS:
                    tried[poly, how] = 5
                for size in range(4, -1, -1):
                    for many in range(hits + 1):
                        for how, found in plain_unseen(rule, Check(poly), kinds, size, many).items():
                            if found > 0:
                                tried[poly, how] = size
            for how in HOWS:
                greatest = max(tried["101", how], tried["111", how])
                told = best_checks(rule, 2, kinds, hits, how)
                # Of those that are not unseen in short data, the longer ones can be unlike.
                best = tuple(poly for poly in ["101", "111"] if tried[poly, how] == greatest)
                self.assertTrue(told == best or greatest == 5 and set(told) < set(best), (str(rule), kinds, hits, how))

    def test_lists_and_tuples(self):
        for how in HOWS:
            told = [best_checks(PLAIN, 2, kinds, 2, how) for kinds in [("turn", "lose"), ["lose", "turn"]]]
            self.assertEqual(told[0], told[1])


if __name__ == "__main__":
    unittest.main()
