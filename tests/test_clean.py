"""[11], [12] and [13]: clean rules."""

import unittest

from tests.helpers import (
    any_values, in_good_time, nested, plain_bodies, plain_body, plain_filled, rules, some_rules, words)
from unseenflips.clean import clean_paper, clean_paper_holds, flag_at, is_clean, spoiled
from unseenflips.rules import Rule

# A walk that never ends shall not keep the tests.
SECONDS = 60
ONES = Rule("01110", [("11", "0")])
ZEROS = Rule("0010", [("001", "1")])
# Behind two ones it puts in a zero, then a one, and then a zero again.
CHAIN = Rule("01110", [("11", "0"), ("110", "1"), ("101", "0")])
LEAST = Rule("11", [("1", "0")])


def first_flag(rule, line):
    return (line + rule.flag).index(rule.flag)


def first_spoiled(rule, longest):
    """The first message of so many bits at most in whose line a flag comes too early, or None."""
    for message, line in plain_bodies(rule, longest).items():
        if first_flag(rule, line) != len(line):
            return message
    return None


def behind_messages(rule):
    """The standings behind short messages."""
    least = max(rule.longest, len(rule.flag)) - 1
    return tuple(sorted({line[-least:] for line in plain_bodies(rule, 7).values()}))


def plain_holds(rule, paper):
    """Whether a tuple of words is a right paper, in the words of the promise."""
    least = max(rule.longest, len(rule.flag)) - 1
    if "" not in paper:
        return False
    for standing in paper:
        if rule.flag in standing or first_flag(rule, standing) != len(standing):
            return False
        for bit in "01":
            line = plain_filled(rule, standing + bit)
            if rule.flag in line or line[-least:] not in paper:
                return False
    return True


class Clean(unittest.TestCase):
    def setUp(self):
        self.enterContext(in_good_time(SECONDS))

    def assert_spoiled(self, rule, message):
        self.assertEqual(spoiled(rule), message, str(rule))
        self.assertIs(is_clean(rule), message is None)

    def test_clean_rules(self):
        for rule in [ONES, ZEROS, LEAST, ONES.swapped(), ZEROS.swapped(), Rule("011", [("01", "0")]),
                     Rule("011110", [("0111", "0")]), Rule("01111110", [("11111", "0")])]:
            self.assert_spoiled(rule, None)

    def test_without_stuffs(self):
        for flag, message in [("11", "1"), ("01", "01"), ("10", "10"), ("0110", "011"), ("111111", "1"),
                              ("011110", "01111"), ("000001", "000001")]:
            self.assert_spoiled(Rule(flag), message)

    def test_flag_in_the_body(self):
        self.assert_spoiled(Rule("01", [("00", "1")]), "00")
        self.assert_spoiled(Rule("10", [("1", "0")]), "1")
        self.assert_spoiled(Rule("001", [("01", "1")]), "001")

    def test_flag_that_is_met_ahead_of_the_one_at_the_end(self):
        # The body has no flag, but what ends it and the flag's own bits make one.
        self.assert_spoiled(Rule("01110", [("111", "0")]), "0111")
        self.assert_spoiled(Rule("0101", [("0101", "1"), ("10", "0")]), "01")
        self.assertEqual(flag_at(Rule("0111"), "0110"), 4)
        self.assertEqual(flag_at(Rule("0101"), "01"), 0)

    def test_put_in_bits_that_complete_a_pattern_again(self):
        self.assert_spoiled(CHAIN, None)
        self.assert_spoiled(Rule("11010", CHAIN.stuffs), "11")
        self.assert_spoiled(Rule("10101", CHAIN.stuffs), "10")
        self.assert_spoiled(Rule("0100", [("0", "1")]), None)

    def test_empty_message_is_never_spoiled(self):
        for flag in words(4, 2):
            self.assertNotEqual(spoiled(Rule(flag)), "")
            self.assertEqual(flag_at(Rule(flag), ""), 0)

    def test_all_short_messages(self):
        told = {True: 0, False: 0}
        for rule in some_rules(600, 11):
            message = first_spoiled(rule, 7)
            told[is_clean(rule)] += 1
            if message is not None:
                self.assert_spoiled(rule, message)
            elif is_clean(rule):
                # A paper that holds, in the words of the promise, leaves no message out.
                self.assert_spoiled(rule, None)
                self.assertTrue(plain_holds(rule, clean_paper(rule)), str(rule))
            else:
                self.assert_spoiled(rule, first_spoiled(rule, 11))
        self.assertGreater(min(told.values()), 60)

    def test_all_rules_for_a_flag(self):
        for flag in ["00", "010", "0110", "01110"]:
            for stuffs, longest in [(1, 4), (2, 2)]:
                for rule in rules(flag, stuffs, longest):
                    self.assert_spoiled(rule, first_spoiled(rule, 7))

    def test_flag_at(self):
        for rule, message, at in [(Rule("11"), "010", 3), (Rule("11"), "0110", 1), (Rule("11"), "01", 1),
                                  (ONES, "1111", 6), (ONES, "", 0), (ZEROS, "0010", 5),
                                  (Rule("10", [("1", "0")]), "01", 1)]:
            self.assertEqual(flag_at(rule, message), at)

    def test_flag_at_in_the_words_of_the_promise(self):
        for rule in some_rules(100, 12):
            for message, line in plain_bodies(rule, 5).items():
                self.assertEqual(flag_at(rule, message), first_flag(rule, line))

    def test_what_clean_rules_need(self):
        other = {"0": "1", "1": "0"}
        seen = 0
        for rule in some_rules(600, 13):
            if is_clean(rule):
                seen += 1
                self.assertTrue(any(pattern + other[bit] in rule.flag for pattern, bit in rule.stuffs), str(rule))
        self.assertGreater(seen, 60)


class Papers(unittest.TestCase):
    def setUp(self):
        self.enterContext(in_good_time(SECONDS))

    def test_right_papers(self):
        for rule in [ONES, ZEROS, LEAST, CHAIN]:
            paper = clean_paper(rule)
            self.assertIs(paper.__class__, tuple)
            self.assertTrue(plain_holds(rule, paper))
            self.assertIs(clean_paper_holds(rule, paper), True)

    def test_no_paper(self):
        for rule in [Rule("11"), Rule("01110", [("111", "0")]), Rule("10", [("1", "0")]), Rule("000000")]:
            self.assertIsNone(clean_paper(rule))

    def test_a_paper_by_hand(self):
        for value, expected in [
                (("", "0"), True), (("0", ""), True), (("", "0", "0", ""), True), ((), False), (("",), False),
                (("0",), False), (("", "1"), False), (("", "0", "1"), False), (("", "0", "00"), True),
                (("", "0", "000000"), True), (("", "0", "10"), True), (("", "0", "01"), False),
                (("", "0", "11"), False), (("", "0", "0110"), False), (("", "0", "1011000"), False)]:
            self.assertIs(clean_paper_holds(LEAST, value), expected, value)

    def test_a_standing_that_ends_with_a_pattern(self):
        # No message leads there; what is put in depends on the standing with the next bit behind it.
        paper = clean_paper(ONES)
        for more, expected in [(("1110",), True), (("11", "1110"), True), (("111", "1110"), True), (("11",), False),
                               (("111",), False), (("0011",), False), (("0011", "1110"), False)]:
            self.assertIs(plain_holds(ONES, paper + more), expected, more)
            self.assertIs(clean_paper_holds(ONES, paper + more), expected, more)

    def test_flag_that_is_completed_by_a_bit_or_a_put_in_bit(self):
        spoiled_rule = Rule("10", [("1", "0")])
        for paper in [("", "0"), ("", "0", "1"), ("",)]:
            self.assertIs(clean_paper_holds(spoiled_rule, paper), False)
        # The flag is over before the last bits begin, so they alone do not show it.
        rule = Rule("11", [("1", "0"), ("10", "0")])
        self.assertIs(clean_paper_holds(rule, ("", "0")), True)
        self.assertIs(clean_paper_holds(Rule("10", rule.stuffs), ("", "0")), False)

    def test_every_message_may_be_a_standing(self):
        for rule in [ONES, ZEROS, LEAST, CHAIN]:
            paper = clean_paper(rule) + tuple(plain_body(rule, message) for message in words(6))
            self.assertIs(clean_paper_holds(rule, paper), True)

    def test_entries_left_out_changed_and_added(self):
        for rule in list(some_rules(150, 14)) + [ONES, ZEROS, LEAST, CHAIN]:
            paper = clean_paper(rule)
            if paper is None:
                continue
            self.assertTrue(plain_holds(rule, paper))
            for value in [paper, paper * 2, paper[::-1], tuple(sorted(paper)) + paper[:1]]:
                self.assertIs(clean_paper_holds(rule, value), True)
            for at, standing in enumerate(paper):
                for other in ["", "0", "1", standing + "0", "1" + standing, standing[1:], rule.flag, "0" * 9]:
                    changed = paper[:at] + (other,) + paper[at + 1:]
                    self.assertIs(clean_paper_holds(rule, changed), plain_holds(rule, changed), (str(rule), changed))
                    added = paper + (other,)
                    self.assertIs(clean_paper_holds(rule, added), plain_holds(rule, added), (str(rule), added))

    def test_each_standing_behind_a_message_is_needed(self):
        seen = 0
        for rule in some_rules(200, 15):
            paper = behind_messages(rule)
            if plain_holds(rule, paper):
                seen += 1
                self.assertIs(clean_paper_holds(rule, paper), True)
                for at in range(len(paper)):
                    self.assertIs(clean_paper_holds(rule, paper[:at] + paper[at + 1:]), False)
        self.assertGreater(seen, 20)

    def test_papers_of_other_rules(self):
        known = [ONES, ZEROS, LEAST, CHAIN, ONES.swapped(), Rule("011", [("01", "0")]), Rule("0110")]
        papers = [clean_paper(rule) for rule in known if clean_paper(rule)]
        self.assertEqual(len(papers), 6)
        for rule in known + list(some_rules(60, 16)):
            for paper in papers:
                self.assertIs(clean_paper_holds(rule, paper), plain_holds(rule, paper))
        self.assertIs(clean_paper_holds(ONES, clean_paper(LEAST)), False)

    def test_no_paper_of_a_spoiled_rule_holds(self):
        for rule in some_rules(150, 17):
            if not is_clean(rule):
                least = max(rule.longest, len(rule.flag)) - 1
                for value in [tuple(words(least)), tuple(word for word in words(least) if rule.flag not in word),
                              behind_messages(rule)]:
                    self.assertIs(clean_paper_holds(rule, value), False)

    def test_any_value_at_all(self):
        paper = clean_paper(LEAST)
        for value in any_values() + ["", "0", "01", list(paper), [paper], (paper,), "".join(paper), {}]:
            self.assertIs(clean_paper_holds(LEAST, value), False, value)
        for part in any_values() + [["0"], ("0",), [""], ["", "0"]]:
            for value in [paper + (part,), (part,) + paper, (part,), ("", part)]:
                self.assertIs(clean_paper_holds(LEAST, value), False, value)
        for depth in range(1, 9):
            self.assertIs(clean_paper_holds(LEAST, paper + (nested("0", depth),)), False)


if __name__ == "__main__":
    unittest.main()
