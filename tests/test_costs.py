"""[14] and [15]: costs."""

import math
import unittest
from fractions import Fraction

from tests.helpers import any_values, in_good_time, nested, plain_bodies, plain_filled, rules, some_rules, words
from unseenflips.costs import all_put, dearest, most_put, rate, rate_paper, rate_paper_holds
from unseenflips.rules import Rule

# A walk that never ends shall not keep the tests.
SECONDS = 60
ONES = Rule("01110", [("11", "0")])
ZEROS = Rule("0010", [("001", "1")])
# Behind two ones it puts in a zero, then a one, and then a zero again.
CHAIN = Rule("01110", [("11", "0"), ("110", "1"), ("101", "0")])
NONE = Rule("01110")


def tail(line, many):
    return line[len(line) - many:] if len(line) > many else line


def plain_holds(rule, value, paper):
    """Whether a tuple of pairs is a right paper, in the words of the promise."""
    heights = {standing: Fraction(*height) for standing, height in paper}
    if len(heights) != len(paper) or "" not in heights:
        return False
    for standing in heights:
        for bit in "01":
            line = plain_filled(rule, standing + bit)
            put = len(line) - len(standing) - 1
            behind = tail(line, rule.longest)
            if behind not in heights or heights[behind] < heights[standing] + put - Fraction(*value):
                return False
    return True


def is_form(rule, paper):
    """Whether a result has the form of a paper."""
    return paper.__class__ is tuple and all(
        entry.__class__ is tuple and len(entry) == 2 and len(entry[0]) <= rule.longest and set(entry[0]) <= set("01")
        and is_value(entry[1]) for entry in paper)


def is_value(value):
    return (value.__class__, len(value), value[0].__class__, value[1].__class__) == (tuple, 2, int, int) and (
        value[1] > 0 and math.gcd(*value) == 1)


def comes_back_at(rule, value, message):
    """Whether, within this message, a standing comes again, and each bit in between costs just this value."""
    line, places = "", {}
    for at, bit in enumerate(message):
        line = plain_filled(rule, line + bit)
        put = len(line) - at - 1
        for earlier, put_there in places.setdefault(tail(line, rule.longest), []):
            if (put - put_there) * value[1] == (at - earlier) * value[0]:
                return True
        places[tail(line, rule.longest)].append((at, put))
    return False


class Sizes(unittest.TestCase):
    def setUp(self):
        self.enterContext(in_good_time(SECONDS))

    def test_by_hand(self):
        for rule, size, most, message, total in [
                (ONES, 0, 0, "", 0), (ONES, 1, 0, "0", 0), (ONES, 2, 1, "11", 1), (ONES, 3, 1, "011", 3),
                (ONES, 4, 2, "1111", 9), (ONES, 5, 2, "01111", 23), (NONE, 0, 0, "", 0), (NONE, 3, 0, "000", 0),
                (ZEROS, 3, 1, "001", 1), (ZEROS, 2, 0, "00", 0), (CHAIN, 2, 3, "11", 3), (CHAIN, 1, 0, "0", 0),
                (Rule("00", [("0", "1")]), 3, 3, "000", 12), (Rule("00", [("1", "0")]), 2, 2, "11", 4)]:
            told = most_put(rule, size), dearest(rule, size), all_put(rule, size)
            self.assertEqual(told, (most, message, total), (str(rule), size))

    def test_all_short_messages(self):
        for rule in some_rules(250, 21):
            self.compare(rule, 7)

    def test_all_small_rules(self):
        for stuffs, longest in [(1, 4), (2, 2)]:
            for rule in rules("0110", stuffs, longest):
                self.compare(rule, 6)

    def compare(self, rule, longest):
        costs = {message: len(line) - len(message) for message, line in plain_bodies(rule, longest).items()}
        for size in range(longest + 1):
            here = {message: costs[message] for message in words(size, size)}
            most = max(here.values())
            self.assertEqual(most_put(rule, size), most)
            self.assertEqual(dearest(rule, size), min(message for message in here if here[message] == most))
            self.assertEqual(all_put(rule, size), sum(here.values()))


class Rates(unittest.TestCase):
    def setUp(self):
        self.enterContext(in_good_time(SECONDS))

    def test_by_hand(self):
        for rule, expected in [
                (ONES, (1, 2)), (ZEROS, (1, 3)), (NONE, (0, 1)), (Rule("00", [("0", "1")]), (1, 1)),
                (CHAIN, (1, 1)), (Rule("00"), (0, 1)), (Rule("011110", [("0111", "0")]), (1, 3)),
                (Rule("00", [("111", "0")]), (1, 3)), (Rule("00", [("0000", "1")]), (1, 4)),
                (Rule("00", [("01", "1")]), (1, 2)), (Rule("00", [("0", "1"), ("01", "1")]), (2, 1)),
                (Rule("00", [("01", "0"), ("1010", "0")]), (3, 2)),
                (Rule("101", [("0111", "0"), ("1000", "0")]), (2, 5))]:
            self.assertEqual(rate(rule), expected, str(rule))

    def test_a_rate_is_a_value(self):
        for rule in some_rules(100, 22):
            self.assertTrue(is_value(rate(rule)))

    def test_no_message_costs_more_and_some_do_not_cost_less(self):
        seen = set()
        for rule in some_rules(250, 23):
            value = rate(rule)
            seen.add(value)
            paper = rate_paper(rule, value)
            self.assertTrue(is_form(rule, paper), str(rule))
            self.assertTrue(plain_holds(rule, value, paper), str(rule))
            self.assertTrue(comes_back_at(rule, value, dearest(rule, 90)), str(rule))
            heights = [Fraction(*height) for standing, height in paper]
            for message, line in plain_bodies(rule, 6).items():
                most = len(message) * Fraction(*value) + max(heights) - Fraction(*dict(paper)[""])
                self.assertLessEqual(len(line) - len(message), most)
        self.assertGreater(len(seen), 6)

    def test_rate_and_great_sizes(self):
        for rule in some_rules(40, 24):
            value = Fraction(*rate(rule))
            for size in [60, 120, 300]:
                # There are at most 31 standings, and no way between them costs more than 4 * 31 bits.
                self.assertLess(abs(most_put(rule, size) - value * size), 125)


class Papers(unittest.TestCase):
    def setUp(self):
        self.enterContext(in_good_time(SECONDS))

    def test_papers_for_values(self):
        for rule in list(some_rules(120, 25)) + [ONES, ZEROS, CHAIN, NONE]:
            least = Fraction(*rate(rule))
            for more in [0, Fraction(1, 1000), Fraction(1, 7), Fraction(2, 3), 1, 100]:
                value = (least + more).as_integer_ratio()
                paper = rate_paper(rule, value)
                self.assertTrue(is_form(rule, paper), (str(rule), value))
                self.assertTrue(plain_holds(rule, value, paper), (str(rule), value))
                self.assertIs(rate_paper_holds(rule, value, paper), True)
            for less in [Fraction(1, 1000), Fraction(1, 7), 1, 100]:
                self.assertIsNone(rate_paper(rule, (least - less).as_integer_ratio()), str(rule))

    def test_rate_0(self):
        paper = rate_paper(NONE, (0, 1))
        self.assertEqual(paper, (("", paper[0][1]),))
        for value, height, expected in [((0, 1), (0, 1), True), ((0, 1), (-7, 3), True), ((1, 9), (5, 1), True),
                                        ((-1, 9), (0, 1), False)]:
            self.assertIs(rate_paper_holds(NONE, value, (("", height),)), expected)
        self.assertIsNone(rate_paper(NONE, (-1, 100)))
        self.assertIs(rate_paper_holds(NONE, (0, 1), (("", (0, 1)), ("0", (0, 1)))), False)

    def test_a_paper_by_hand(self):
        rule = Rule("00", [("1", "0")])
        paper = (("", (0, 1)), ("0", (0, 1)))
        for value, given, expected in [
                ((1, 1), paper, True), ((1, 1), paper[::-1], True), ((2, 1), paper, True), ((1, 2), paper, False),
                ((1, 1), paper[:1], False), ((1, 1), paper[1:], False), ((1, 1), paper * 2, False),
                ((1, 1), paper + (("1", (0, 1)),), True), ((1, 1), paper + (("1", (1, 2)),), False),
                ((1, 1), paper + (("1", (-9, 2)),), True), ((1, 1), paper + (("00", (0, 1)),), False),
                ((1, 1), (("", (1, 9)), ("0", (0, 1))), False), ((1, 1), (("", (0, 1)), ("0", (1, 9))), True),
                ((1, 1), (("", (0, 1)), ("0", (0, 1)), ("0", (0, 1))), False),
                ((1, 1), (("", (0, 1)), ("0", (0, 1)), ("0", (1, 1))), False),
                ((2, 1), (("", (1, 1)), ("0", (0, 1))), True),
                ((2, 1), (("", (10 ** 30 + 1, 10 ** 30)), ("0", (0, 1))), False)]:
            self.assertIs(rate_paper_holds(rule, value, given), expected, (value, given))

    def test_heights_just_reach_what_is_asked_for(self):
        # From the empty word over 1 to 1, then with a bit put in to 10: the heights are all needed.
        paper = {"": (0, 1), "1": (-1, 2), "0": (-1, 2), "10": (0, 1), "00": (-1, 2), "01": (-1, 2)}
        self.assertIs(rate_paper_holds(ONES, (1, 2), tuple(paper.items())), True)
        for standing in paper:
            raised = dict(paper)
            raised[standing] = (1, 1000)
            lowered = dict(paper)
            lowered[standing] = (-501, 1000)
            for value in [raised, lowered]:
                self.assertIs(
                    rate_paper_holds(ONES, (1, 2), tuple(value.items())),
                    plain_holds(ONES, (1, 2), tuple(value.items())), (standing, value[standing]))

    def test_entries_left_out_changed_and_added(self):
        for rule in list(some_rules(60, 26)) + [ONES, ZEROS, CHAIN, NONE]:
            for value in [rate(rule), (2, 1), (5, 3)]:
                paper = rate_paper(rule, value)
                if paper is None:
                    continue
                self.assertIs(rate_paper_holds(rule, value, paper[::-1]), True)
                self.assertIs(rate_paper_holds(rule, value, paper * 2), False)
                for at, (standing, height) in enumerate(paper):
                    rest = paper[:at] + paper[at + 1:]
                    self.assertIs(rate_paper_holds(rule, value, rest), False)
                    self.assertIs(rate_paper_holds(rule, value, paper + paper[at:at + 1]), False)
                    for add in [Fraction(1, 100), -Fraction(1, 100), 1, -1, 50, -50]:
                        other = rest + ((standing, (Fraction(*height) + add).as_integer_ratio()),)
                        self.assertIs(rate_paper_holds(rule, value, other), plain_holds(rule, value, other))
                for standing in words(rule.longest):
                    more = paper + ((standing, (-1, 2)),)
                    self.assertIs(rate_paper_holds(rule, value, more), plain_holds(rule, value, more))
                self.assertIs(rate_paper_holds(rule, value, paper + (("0" * (rule.longest + 1), (-90, 1)),)), False)

    def test_papers_of_other_rules(self):
        known = [ONES, ZEROS, CHAIN, NONE] + list(some_rules(20, 27))
        for one in known:
            paper = rate_paper(one, (3, 1))
            for other in known:
                fits = all(len(standing) <= other.longest for standing, height in paper)
                for value in [(3, 1), (1, 2), (1, 3), (0, 1)]:
                    self.assertIs(
                        rate_paper_holds(other, value, paper), fits and plain_holds(other, value, paper))

    def test_any_value_at_all(self):
        rule = Rule("00", [("1", "0")])
        paper = (("", (0, 1)), ("0", (0, 1)))
        self.assertIs(rate_paper_holds(rule, (1, 1), paper), True)
        for value in any_values() + ["", "0", list(paper), [paper], (paper,), dict(paper), ("", "0")]:
            self.assertIs(rate_paper_holds(rule, (1, 1), value), False, value)
        entries = [
            (), ("1",), ("1", (0, 1), 0), ["1", (0, 1)], ("1", [0, 1]), ("1", (0, 1, 1)), ("1", (0,)), ("1", 0),
            ("1", (0, 2)), ("1", (-2, 2)), ("1", (-4, 6)), ("1", (0, -1)), ("1", (-1, -1)),
            ("1", (0, 0)), ("1", (-1, 0)),
            ("1", (False, 1)), ("1", (0, True)), ("1", (-1, True)), ("1", ("0", "1")),
            ("1", (None, 1)), ("1", (0, None)),
            ("1", "01"), "1", "01", ((0, 1), "1"), ("2", (0, 1)), (1, (0, 1)), (None, (0, 1)), (("1",), (0, 1)),
            ("11", (0, 1)), ("1 ", (0, 1)), ("1", ((0, 1), 1))]
        for entry in entries + any_values() + [nested(("1", (0, 1)), depth) for depth in range(1, 7)]:
            for value in [paper + (entry,), (entry,) + paper, (entry,)]:
                self.assertIs(rate_paper_holds(rule, (1, 1), value), False, value)
        for value in any_values():
            for entry in [("1", value), (value, (0, 1)), ("1", (0, value)), ("1", (value, 1))]:
                # Of all these values only integers can stand for p, and only 1 and 11 for q.
                self.assertIs(rate_paper_holds(rule, (20, 1), paper + (entry,)), entry in [
                    ("1", (0, 1)), ("1", (1, 1)), ("1", (-1, 1)), ("1", (11, 1))]
                    and all(part.__class__ is int for part in entry[1]), entry)


if __name__ == "__main__":
    unittest.main()
