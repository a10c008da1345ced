"""[17] and [18]: hits."""

import itertools
import unittest

from tests.helpers import KINDS, any_values, in_good_time, nested, plain_bodies, plain_hit, rules, some_rules, words
from unseenflips.errors import FlipError, InvalidHits
from unseenflips.hits import hit, shifts
from unseenflips.lines import taken_out
from unseenflips.rules import Rule

# A walk that never ends shall not keep the tests.
SECONDS = 60
ONES = Rule("01110", [("11", "0")])
ZEROS = Rule("0010", [("001", "1")])
# Behind two ones it puts in a zero, then a one, and then a zero again.
CHAIN = Rule("01110", [("11", "0"), ("110", "1"), ("101", "0")])
# One lost bit can make three bits of a message be taken out.
FAR = Rule("0010", [("1011", "0"), ("1100", "1")])


def plain_shifts(rule, kind, longest):
    """The differences that one hit makes in messages of so many bits at most."""
    found = set()
    for message, line in plain_bodies(rule, longest).items():
        for at in range(len(line)):
            part = plain_hit(line, [(at, kind)])
            if (part + rule.flag).index(rule.flag) == len(part) and taken_out(rule, part) is not None:
                found.add(len(taken_out(rule, part)) - len(message))
    return found


class Hits(unittest.TestCase):
    def test_each_kind(self):
        for line, hits, expected in [
                ("0", [(0, "double")], "00"), ("1", [(0, "double")], "11"), ("0", [(0, "lose")], ""),
                ("0", [(0, "turn")], "1"), ("1", [(0, "turn")], "0"), ("0110", [(1, "turn")], "0010"),
                ("0110", [(3, "lose")], "011"), ("0110", [(0, "lose")], "110"), ("0110", [(3, "double")], "01100"),
                ("0100", [(1, "double")], "01100")]:
            self.assertEqual(hit(line, hits), expected)

    def test_several(self):
        self.assertEqual(hit("0110", [(0, "double"), (2, "lose"), (3, "turn")]), "0011")
        self.assertEqual(hit("0110", [(0, "turn"), (1, "turn"), (2, "turn"), (3, "turn")]), "1001")
        self.assertEqual(hit("0110", [(at, "lose") for at in range(4)]), "")
        self.assertEqual(hit("01", [(0, "double"), (1, "double")]), "0011")

    def test_none(self):
        for line in words(4):
            for hits in [[], ()]:
                self.assertEqual(hit(line, hits), line)

    def test_numbers_are_those_of_the_line_that_was_sent(self):
        for line in words(5, 2):
            for one, other in itertools.combinations(range(len(line)), 2):
                for kind, another in itertools.product(KINDS, repeat=2):
                    hits = [(one, kind), (other, another)]
                    self.assertEqual(hit(line, hits), plain_hit(line, hits))

    def test_lists_and_tuples(self):
        hits = [(0, "double"), (2, "lose")]
        self.assertEqual(hit("0110", tuple(hits)), hit("0110", hits))
        self.assertEqual(hits, [(0, "double"), (2, "lose")])


class WrongHits(unittest.TestCase):
    def assert_invalid(self, at, line, hits):
        with self.assertRaises(FlipError) as caught:
            hit(line, hits)
        self.assertIs(caught.exception.__class__, InvalidHits)
        self.assertEqual((caught.exception.at, caught.exception.at.__class__), (at, int), hits)

    def test_no_sequence(self):
        for value in any_values() + ["", "01", "turn", "0", {}]:
            if value not in ([], ()):
                self.assert_invalid(0, "0110", value)

    def test_wrong_elements(self):
        good = [(0, "turn"), (1, "lose")]
        wrong = [
            (), (2,), (2, "turn", 0), [2, "turn"], ("2", "turn"), ("turn", 2), (2, "Turn"), (2, "turn "), (2, ""),
            (2, "turns"), (2, "tur"), (2, None), (2, 0), (2, ["turn"]), (2, ("turn",)), (2, KINDS), ((2,), "turn"),
            ([2], "turn"), (None, "turn"), (True, "turn"), (False, "turn"), (2, "flip"), "2t", ("turn", "turn"),
            ((2, "turn"),),
            (2, "double", "lose"), (ONES, "turn"), (2, ONES)]
        for value in wrong + any_values():
            self.assert_invalid(2, "0110", good + [value])
            self.assert_invalid(2, "0110", tuple(good) + (value, (3, "turn")))
            self.assert_invalid(0, "0110", [value])
            self.assert_invalid(0, "0110", [value, (3, "turn")])
            self.assert_invalid(1, "0110", [(0, "lose"), value, value])
        for value in any_values():
            self.assert_invalid(1, "0110", [(0, "lose"), (3, value)])
            if value.__class__ is not int or value != 1:
                self.assert_invalid(1, "0110", [(0, "lose"), (value, "turn")])
        for depth in range(1, 8):
            self.assert_invalid(0, "0110", [nested((0, "turn"), depth)])

    def test_bools_are_no_numbers(self):
        self.assert_invalid(0, "01", [(False, "turn")])
        self.assert_invalid(0, "01", [(True, "turn")])
        self.assert_invalid(1, "01", [(0, "turn"), (True, "turn")])

    def test_numbers_outside(self):
        for at in [4, 5, 300, 10 ** 30, -1, -4, -10 ** 30]:
            self.assert_invalid(0, "0110", [(at, "turn")])
        self.assert_invalid(1, "0110", [(3, "turn"), (4, "turn")])
        self.assert_invalid(0, "", [(0, "turn")])
        self.assertEqual(hit("0110", [(3, "turn")]), "0111")

    def test_numbers_that_are_not_ascending_or_not_different(self):
        self.assert_invalid(1, "0110", [(1, "turn"), (1, "lose")])
        self.assert_invalid(1, "0110", [(2, "turn"), (1, "turn"), (0, "turn")])
        self.assert_invalid(2, "0110", [(0, "turn"), (2, "turn"), (1, "turn")])
        self.assert_invalid(2, "0110", [(0, "turn"), (2, "turn"), (0, "turn")])
        self.assert_invalid(2, "0110", [(0, "turn"), (2, "turn"), (2, "turn")])

    def test_the_first_wrong_one_is_told(self):
        self.assert_invalid(0, "0110", [(9, "turn"), (1, "no"), None])
        self.assert_invalid(1, "0110", [(1, "turn"), (0, "turn"), None, (9, "turn")])
        self.assert_invalid(2, "0110", [(1, "turn"), (2, "turn"), None, (0, "turn")])
        self.assert_invalid(2, "0110", [(1, "turn"), (2, "turn"), (2, "no")])

    def test_a_refused_argument_stays(self):
        hits = [(1, "turn"), (0, "turn")]
        self.assert_invalid(1, "0110", hits)
        self.assertEqual(hits, [(1, "turn"), (0, "turn")])


class Shifts(unittest.TestCase):
    def setUp(self):
        self.enterContext(in_good_time(SECONDS))

    def test_by_hand(self):
        for rule, kinds, expected in [
                (ONES, ["turn"], (-1, 0, 1)), (Rule("01110"), ["lose"], (-1,)), (Rule("01110"), ["turn"], (0,)),
                (Rule("01110"), ["double"], (1,)), (Rule("01110"), KINDS, (-1, 0, 1)),
                (Rule("01110"), ["lose", "double"], (-1, 1)),
                (ONES, ["lose"], (-2, -1, 0)), (ONES, ["double"], (0, 1)),
                (FAR, ["lose"], (-3, -2, -1, 0, 1)), (FAR, ["turn"], (-2, -1, 0, 1, 2)),
                (FAR, ["double"], (-1, 0, 1, 2))]:
            self.assertEqual(shifts(rule, kinds), expected, (str(rule), kinds))

    def test_no_kinds(self):
        for rule in [ONES, ZEROS, CHAIN, Rule("11")]:
            for kinds in [[], ()]:
                self.assertEqual(shifts(rule, kinds), ())

    def test_empty(self):
        # Each zero is followed by a one, and no line with two ones in a row is free of flags.
        for rule in [Rule("11", [("0", "1")]), Rule("00", [("1", "0")]), Rule("000", [("1", "0"), ("1110", "0")])]:
            for kinds in [["turn"], ["double"], ["turn", "double"]]:
                self.assertEqual(shifts(rule, kinds), ())
            self.assertNotEqual(shifts(rule, ["lose"]), ())

    def test_kinds_together(self):
        for rule in some_rules(100, 41):
            alone = {kind: set(shifts(rule, [kind])) for kind in KINDS}
            for many in range(4):
                for kinds in itertools.permutations(KINDS, many):
                    expected = sorted(set().union(*(alone[kind] for kind in kinds)))
                    self.assertEqual(shifts(rule, kinds), tuple(expected))
                    self.assertEqual(shifts(rule, list(kinds)), tuple(expected))

    def test_swapped_rules(self):
        for rule in some_rules(100, 42):
            for kind in KINDS:
                self.assertEqual(shifts(rule, [kind]), shifts(rule.swapped(), [kind]))

    def test_all_short_messages(self):
        for rule in some_rules(300, 43):
            self.compare(rule)

    def test_all_small_rules(self):
        for flag in ["11", "010"]:
            for rule in rules(flag, 1, 3):
                self.compare(rule)

    def compare(self, rule):
        for kind in KINDS:
            told = shifts(rule, [kind])
            self.assertEqual(told, tuple(sorted(set(told))))
            for longest in [3, 6, 8, 10, 12]:
                found = plain_shifts(rule, kind, longest)
                self.assertLessEqual(found, set(told), (str(rule), kind))
                if found == set(told):
                    break
            self.assertEqual(found, set(told), (str(rule), kind))

    def test_a_flag_ahead_of_the_one_at_the_end_does_not_count(self):
        # A zero that arrives as a one makes a flag, in the body or with the bits of the flag behind it.
        for rule in [Rule("00", [("01", "1")]), Rule("11"), Rule("0110", [("011", "1")]), CHAIN, ZEROS]:
            for kind in KINDS:
                self.assertEqual(shifts(rule, [kind]), tuple(sorted(plain_shifts(rule, kind, 10))))
        self.assertEqual(shifts(Rule("11"), ["double"]), (1,))
        self.assertEqual(shifts(Rule("10", [("0", "1")]), ["turn"]), (-1, 1))


if __name__ == "__main__":
    unittest.main()
