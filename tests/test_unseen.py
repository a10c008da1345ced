"""[19], [20] and [21]: unseen hits."""

import itertools
import random
import unittest

from tests.helpers import (
    HOWS, KINDS, all_hits, in_good_time, plain_body, plain_unseen, plain_way, rules, some_check, some_rules, words)
from unseenflips.checks import Check
from unseenflips.rules import Rule
from unseenflips.unseen import count_unseen, example, first_unseen, unseen_sizes

# A walk that never ends shall not keep the tests.
SECONDS = 120
ONES, ODD = Rule("01110", [("11", "0")]), Check("11")
# Nothing is put in, so four bits of data can already make a flag that comes too early.
PLAIN = Rule("01110")
LEAST = Rule("11", [("1", "0")])
# Behind two ones it puts in a zero, then a one, and then a zero again.
CHAIN = Rule("01110", [("11", "0"), ("110", "1"), ("101", "0")])
SOME_KINDS = [[], ["double"], ["lose"], ["turn"], ["turn", "lose"], ["lose", "double"], KINDS]


class Unseen(unittest.TestCase):
    def setUp(self):
        self.enterContext(in_good_time(SECONDS))

    def compare(self, rule, check, kinds, hits, most):
        """Holds all answers against trying all data of so many bits at most, with at most so many hits."""
        tried = [[plain_unseen(rule, check, kinds, size, many) for many in range(hits + 1)]
                 for size in range(most + 1)]
        for how in HOWS:
            asked = rule, check, kinds, hits, how
            name = str(rule), str(check), kinds, hits, how
            sizes = tuple(size for size in range(most + 1) if any(found[how] > 0 for found in tried[size]))
            self.assertEqual(unseen_sizes(*asked, most), sizes, name)
            first = first_unseen(*asked)
            if sizes:
                self.assertEqual(first, sizes[0], name)
            else:
                self.assertTrue(first is None or first > most, name)
            self.assert_example(*asked)
            for size, many in itertools.product(range(most + 1), range(hits + 1)):
                told = count_unseen(rule, check, kinds, size, many, how)
                self.assertEqual(told, tried[size][many][how], (name, size, many))

    def assert_example(self, rule, check, kinds, hits, how):
        first, told = first_unseen(rule, check, kinds, hits, how), example(rule, check, kinds, hits, how)
        if first is None:
            self.assertIsNone(told)
            return
        data, found = told
        line = plain_body(rule, data + check.bits_for(data))
        self.assertEqual((told.__class__, data.__class__, found.__class__), (tuple, str, tuple))
        self.assertEqual(len(data), first)
        self.assertLessEqual(len(found), hits)
        self.assertIn(found, all_hits(len(line), kinds, len(found)))
        way = plain_way(rule, check, data, line, found)
        self.assertIn(way, HOWS[:3] if how == "any" else [how])


class ByHand(Unseen):
    def assert_first(self, rule, check, kinds, hits, expected):
        """What is expected is the least size for same, shift, cut and any."""
        told = tuple(first_unseen(rule, check, kinds, hits, how) for how in HOWS)
        self.assertEqual(told, expected, (str(rule), str(check), kinds, hits))
        for how in HOWS:
            self.assert_example(rule, check, kinds, hits, how)

    def test_first_without_stuffs(self):
        self.assert_first(PLAIN, Check(), ["turn"], 1, (1, None, 4, 1))
        self.assert_first(PLAIN, Check(), ["lose"], 1, (None, 1, 4, 1))
        self.assert_first(PLAIN, Check(), ["double"], 1, (None, 1, 3, 1))
        self.assert_first(PLAIN, Check(), ["double", "lose"], 2, (2, 1, 3, 1))

    def test_first_with_a_check(self):
        # What is read ahead of a flag that comes too early needs at least one bit.
        self.assert_first(PLAIN, ODD, ["turn"], 1, (None, None, 4, 4))
        self.assert_first(PLAIN, ODD, ["turn"], 2, (1, None, 4, 1))
        self.assert_first(PLAIN, ODD, ["lose"], 1, (None, 1, 5, 1))
        self.assert_first(PLAIN, ODD, ["double"], 1, (None, 0, 3, 0))
        self.assert_first(ONES, ODD, ["turn"], 1, (None, None, 3, 3))

    def test_first_with_a_start(self):
        # Now the number of ones is odd, so the message for no data is 1 instead of 0.
        odd = Check("11", "1")
        self.assertEqual(first_unseen(PLAIN, odd, ["double"], 1, "shift"), 1)
        self.assertEqual(first_unseen(PLAIN, odd, ["double"], 1, "any"), 1)
        self.assertEqual(first_unseen(PLAIN, ODD, ["double"], 1, "any"), 0)
        self.assertEqual(unseen_sizes(PLAIN, odd, ["double"], 1, "shift", 2), (1, 2))
        self.assertEqual(unseen_sizes(PLAIN, ODD, ["double"], 1, "shift", 2), (0, 1, 2))
        self.assertEqual(count_unseen(PLAIN, odd, ["double"], 0, 1, "shift"), 0)
        self.assertEqual(count_unseen(PLAIN, ODD, ["double"], 0, 1, "shift"), 1)

    def test_first_of_the_least_rule(self):
        # Each one of the message is followed by a zero, so one turned bit always shifts, or makes a flag.
        self.assert_first(LEAST, Check(), ["turn"], 1, (None, 1, 1, 1))
        self.assert_first(LEAST, Check(), ["turn"], 2, (2, 1, 1, 1))

    def test_no_hits(self):
        self.assert_first(PLAIN, Check(), KINDS, 0, (None, None, 4, 4))
        self.assert_first(PLAIN, ODD, KINDS, 0, (None, None, 6, 6))
        self.assert_first(Rule("11"), Check(), [], 0, (None, None, 1, 1))
        self.assertEqual(example(PLAIN, Check(), [], 0, "cut"), ("0111", ()))
        self.assertEqual(example(Rule("11"), Check(), [], 0, "any"), ("1", ()))
        for rule in [ONES, LEAST, Rule("0010", [("001", "1")])]:
            self.assert_first(rule, Check(), KINDS, 0, (None, None, None, None))
            self.assert_first(rule, Check("111", "01"), KINDS, 0, (None, None, None, None))

    def test_no_kinds(self):
        for rule, check, hits, how in itertools.product([PLAIN, ONES, LEAST], [Check(), ODD], [1, 2], HOWS):
            for kinds in [[], ()]:
                self.assertEqual(first_unseen(rule, check, kinds, hits, how), first_unseen(rule, check, [], 0, how))
                self.assertEqual(unseen_sizes(rule, check, kinds, hits, how, 5),
                                 unseen_sizes(rule, check, KINDS, 0, how, 5))
                self.assertEqual(count_unseen(rule, check, kinds, 4, hits, how), 0)
        self.assertEqual(count_unseen(PLAIN, Check(), [], 4, 0, "cut"), 1)

    def test_counts(self):
        for size in range(4):
            told = [count_unseen(PLAIN, Check(), ["turn"], size, 1, how) for how in HOWS]
            self.assertEqual(told, [size * 2 ** size, 0, 0, size * 2 ** size])
            told = [count_unseen(PLAIN, Check(), ["lose"], size, 1, how) for how in HOWS]
            self.assertEqual(told, [0, size * 2 ** size, 0, size * 2 ** size])
        self.assertEqual([count_unseen(PLAIN, Check(), KINDS, 1, 1, how) for how in HOWS], [2, 4, 0, 6])
        self.assertEqual([count_unseen(PLAIN, Check(), KINDS, 2, 2, how) for how in HOWS], [8, 24, 0, 32])
        # There are fewer bits than hits.
        self.assertEqual([count_unseen(PLAIN, Check(), KINDS, 1, 2, how) for how in HOWS], [0, 0, 0, 0])
        self.assertEqual([count_unseen(PLAIN, Check(), KINDS, 0, 1, how) for how in HOWS], [0, 0, 0, 0])

    def test_counts_are_of_exactly_so_many_hits(self):
        rule = Rule("11")
        self.assertEqual([count_unseen(rule, Check(), KINDS, 1, hits, "any") for hits in range(3)], [1, 6, 0])
        self.assertEqual(count_unseen(PLAIN, Check(), ["turn"], 3, 2, "same"), 3 * 8)

    def test_hits_behind_a_cut_count(self):
        # The data begin with a flag, so whatever is hit behind it, no data are read.
        for size, many in [(5, 1), (5, 2), (6, 1)]:
            told = count_unseen(PLAIN, Check(), ["double", "turn"], size, many, "cut")
            self.assertEqual(told, plain_unseen(PLAIN, Check(), ["double", "turn"], size, many)["cut"])
        for at, kind in itertools.product([5, 6], KINDS):
            self.assertEqual(plain_way(PLAIN, Check(), "0111011", "0111011", ((at, kind),)), "cut")

    def test_the_same_data_behind_a_cut(self):
        # 00 arrives as 001, and the flag cuts the one off again.
        rule, hits = Rule("11"), ((0, "double"), (1, "turn"))
        self.assertIsNone(plain_way(rule, Check(), "00", "00", hits))
        self.assertEqual(plain_way(rule, Check(), "10", "10", hits), "cut")
        for how in HOWS:
            self.assertEqual(count_unseen(rule, Check(), ["double", "turn"], 2, 2, how),
                             plain_unseen(rule, Check(), ["double", "turn"], 2, 2)[how])

    def test_sizes(self):
        self.assertEqual(unseen_sizes(PLAIN, Check(), ["turn"], 1, "same", 3), (1, 2, 3))
        self.assertEqual(unseen_sizes(PLAIN, Check(), ["turn"], 1, "same", 1), (1,))
        self.assertEqual(unseen_sizes(PLAIN, Check(), ["turn"], 1, "same", 0), ())
        self.assertEqual(unseen_sizes(PLAIN, Check(), [], 0, "cut", 6), (4, 5, 6))
        self.assertEqual(unseen_sizes(ONES, ODD, ["turn"], 1, "shift", 8), ())
        # Only if all bits are lost, no flag comes too early.
        rule = Rule("00", [("1", "0")])
        self.assertEqual(unseen_sizes(rule, Check(), ["lose"], 1, "shift", 8), (1,))
        self.assertEqual(unseen_sizes(rule, Check(), ["lose"], 2, "shift", 8), (1, 2))

    def test_sizes_with_gaps(self):
        for rule, check, kinds, hits, how, most, expected in [
                (Rule("10110", [("001", "1")]), ODD, ["lose"], 2, "same", 7, (5, 7)),
                (Rule("00"), Check("101", "11"), ["turn"], 2, "same", 5, (1, 3, 4, 5)),
                (Rule("1010", [("01", "1"), ("011", "0")]), ODD, ["double"], 2, "cut", 6, (2, 4, 6)),
                (Rule("11001", [("000", "1")]), Check("101", "10"), ["double"], 2, "any", 4, (0, 2, 3, 4))]:
            self.assertEqual(unseen_sizes(rule, check, kinds, hits, how, most), expected)
            self.compare(rule, check, kinds, hits, most)

    def test_never(self):
        for check in [ODD, Check("111"), Check("101", "10")]:
            # A single other bit is seen by each polynomial with two ones.
            self.assertIsNone(first_unseen(PLAIN, check, ["turn"], 1, "same"))
            self.assertIsNone(first_unseen(PLAIN, check, ["turn"], 2, "shift"))
            self.assertIsNone(first_unseen(PLAIN, check, ["lose"], 2, "same"))
            self.assertIsNone(example(PLAIN, check, ["double"], 2, "same"))
        self.assertEqual([first_unseen(ONES, ODD, ["turn"], 1, how) for how in HOWS], [None, None, 3, 3])


class Tried(Unseen):
    """Answers for all lengths, held against trying all short data with all their hits."""

    def test_all_small_rules(self):
        for flag, stuffs, longest in [("11", 1, 3), ("010", 1, 3), ("0110", 1, 2), ("10", 2, 2)]:
            for rule in rules(flag, stuffs, longest):
                for kind in KINDS:
                    self.compare(rule, Check(), [kind], 1, 4)
                    self.compare(rule, ODD, [kind], 1, 3)

    def test_rules_without_stuffs(self):
        for flag in words(3, 2):
            for check in [Check(), Check("11", "1"), Check("101", "01"), Check("111", "00")]:
                self.compare(Rule(flag), check, KINDS, 1, 4)
                self.compare(Rule(flag), check, ["turn", "double"], 2, 3)

    def test_some_rules_without_hits(self):
        chance = random.Random(70)
        for rule in some_rules(200, 71, 5, 3):
            self.compare(rule, some_check(chance), chance.choice(SOME_KINDS), 0, 7)

    def test_some_rules_with_one_hit(self):
        chance = random.Random(72)
        for rule in some_rules(250, 73, 5, 3):
            self.compare(rule, some_check(chance), chance.choice(SOME_KINDS), 1, 5)

    def test_some_rules_with_two_hits(self):
        chance = random.Random(74)
        for rule in some_rules(120, 75, 5, 3):
            self.compare(rule, some_check(chance), chance.choice(SOME_KINDS), 2, 3)

    def test_rules_that_put_in_several_bits_at_once(self):
        for check in [Check(), Check("111", "10")]:
            self.compare(CHAIN, check, KINDS, 1, 5)
            self.compare(CHAIN, check, KINDS, 2, 2)
            self.compare(CHAIN.swapped(), check, ["lose", "turn"], 2, 2)

    def test_large_first_sizes(self):
        for rule, check, kinds, hits, how, expected in [
                (Rule("0010", [("000", "1")]), Check("111", "10"), ["lose"], 2, "same", 10),
                (Rule("101", [("101", "0"), ("111", "0")]), Check("111", "10"), ["double"], 2, "same", 9),
                (Rule("01", [("100", "0")]), Check("11", "1"), ["lose"], 2, "same", 8),
                (Rule("01011", [("100", "1")]), Check("101", "11"), ["turn"], 0, "cut", 7),
                (Rule("11000", [("10", "1")]), Check("101"), ["lose"], 2, "cut", 7)]:
            self.assertEqual(first_unseen(rule, check, kinds, hits, how), expected)
            self.assert_example(rule, check, kinds, hits, how)
            for size in range(expected):
                for many in range(hits + 1):
                    self.assertEqual(plain_unseen(rule, check, kinds, size, many)[how], 0)

    def test_what_is_never_unseen_is_not_unseen_in_long_data(self):
        chance = random.Random(76)
        never = 0
        for rule in some_rules(60, 77, 5, 3):
            check, kind = some_check(chance), chance.choice(KINDS)
            ways = [how for how in HOWS if first_unseen(rule, check, [kind], 1, how) is None]
            never += len(ways)
            for size in [20, 33, 50] if ways else []:
                data = "".join(chance.choice("01") for _ in range(size))
                line = plain_body(rule, data + check.bits_for(data))
                for hits in all_hits(len(line), [kind], 1):
                    way = plain_way(rule, check, data, line, hits)
                    self.assertNotIn(way, ways)
                    self.assertTrue(way is None or "any" not in ways)
        self.assertGreater(never, 50)


class Together(Unseen):
    """How the answers go together."""

    def test_any_is_one_of_the_three(self):
        chance = random.Random(78)
        for rule in some_rules(100, 79, 5, 3):
            check, kinds, hits = some_check(chance), chance.choice(SOME_KINDS), chance.randint(0, 2)
            told = [first_unseen(rule, check, kinds, hits, how) for how in HOWS[:3]]
            least = min((size for size in told if size is not None), default=None)
            self.assertEqual(first_unseen(rule, check, kinds, hits, "any"), least)
            counts = [count_unseen(rule, check, kinds, 6, hits, how) for how in HOWS]
            self.assertEqual(counts[3], sum(counts[:3]))
            sizes = [set(unseen_sizes(rule, check, kinds, hits, how, 7)) for how in HOWS]
            self.assertEqual(sizes[3], sizes[0] | sizes[1] | sizes[2])

    def test_first_size_is_the_first_one_of_all(self):
        chance = random.Random(80)
        for rule in some_rules(100, 81, 5, 3):
            check, kinds, hits = some_check(chance), chance.choice(SOME_KINDS), chance.randint(0, 2)
            for how in HOWS:
                first, sizes = first_unseen(rule, check, kinds, hits, how), unseen_sizes(
                    rule, check, kinds, hits, how, 8)
                self.assertEqual(first if first is not None and first <= 8 else None, min(sizes, default=None))
                self.assertEqual(sizes, tuple(sorted(set(sizes))))
                for most in range(8):
                    shorter = tuple(size for size in sizes if size <= most)
                    self.assertEqual(unseen_sizes(rule, check, kinds, hits, how, most), shorter)

    def test_sizes_are_those_that_count(self):
        chance = random.Random(82)
        for rule in some_rules(60, 83, 5, 3):
            check, kinds, hits = some_check(chance), chance.choice(SOME_KINDS), chance.randint(0, 2)
            for how in HOWS:
                counted = tuple(size for size in range(7) if any(
                    count_unseen(rule, check, kinds, size, many, how) > 0 for many in range(hits + 1)))
                self.assertEqual(unseen_sizes(rule, check, kinds, hits, how, 6), counted)

    def test_more_hits_or_kinds_are_never_seen_more(self):
        chance = random.Random(84)
        for rule in some_rules(60, 85, 5, 3):
            check = some_check(chance)
            for how in HOWS:
                for few, more in [((["turn"], 1), (["turn"], 2)), ((["lose"], 1), (["turn", "lose"], 1)),
                                  ((["double"], 0), (["double"], 1)), ((["double"], 2), (KINDS, 2))]:
                    before, after = first_unseen(rule, check, *few, how), first_unseen(rule, check, *more, how)
                    self.assertTrue(before is None or after is not None and after <= before)

    def test_order_of_kinds(self):
        def told(kinds):
            return [(first_unseen(ONES, ODD, kinds, 2, how), count_unseen(ONES, ODD, kinds, 4, 2, how),
                     unseen_sizes(ONES, ODD, kinds, 1, how, 6)) for how in HOWS]

        expected = told(KINDS)
        for kinds in itertools.permutations(KINDS):
            self.assertEqual(told(kinds), expected)
            self.assertEqual(told(list(kinds)), expected)
            self.assert_example(ONES, ODD, kinds, 2, "cut")


if __name__ == "__main__":
    unittest.main()
