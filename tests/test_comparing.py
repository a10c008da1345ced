"""[16]: rules compared."""

import itertools
import unittest

from tests.helpers import in_good_time, plain_bodies, plain_body, rules, some_rules, words
from unseenflips.comparing import alike, could_be, parting
from unseenflips.errors import InvalidRule
from unseenflips.rules import Rule

# A walk that never ends shall not keep the tests.
SECONDS = 60
ONES = Rule("01110", [("11", "0")])
ZEROS = Rule("0010", [("001", "1")])
# Behind two ones it puts in a zero, then a one, and then a zero again.
CHAIN = Rule("01110", [("11", "0"), ("110", "1"), ("101", "0")])


def first_unlike(p, q, longest):
    """The first message of so many bits at most with two bodies, or None."""
    ours, others = plain_bodies(p, longest), plain_bodies(q, longest)
    return next((message for message in ours if ours[message] != others[message]), None)


class Parting(unittest.TestCase):
    def setUp(self):
        self.enterContext(in_good_time(SECONDS))

    def assert_parting(self, p, q, message):
        for one, other in [(p, q), (q, p)]:
            self.assertEqual(parting(one, other), message, (str(one), str(other)))
            self.assertIs(alike(one, other), message is None)

    def test_by_hand(self):
        for p, q, message in [
                (ONES, ZEROS, "11"), (ONES, ONES, None), (ONES, Rule("11", [("11", "0")]), None),
                (ONES, Rule("01110"), "11"), (ONES, CHAIN, "11"), (ZEROS, Rule("0010"), "001"),
                (Rule("11"), Rule("000000"), None), (ONES, ONES.swapped(), "00"),
                (ONES, Rule("01110", [("11", "0"), ("0010", "1")]), "0010"),
                (Rule("11", [("0", "1")]), Rule("11", [("1", "0")]), "0"),
                (Rule("11", [("0000", "1")]), Rule("11", [("1111", "0")]), "0000"),
                (Rule("11", [("0000", "1")]), Rule("11"), "0000"),
                (Rule("11", [("01", "1"), ("11", "0")]), Rule("11", [("01", "1"), ("11", "0"), ("0110", "0")]), "01")]:
            self.assert_parting(p, q, message)

    def test_the_empty_message_has_one_body(self):
        for p, q in itertools.combinations(list(some_rules(30, 31)), 2):
            self.assertNotEqual(parting(p, q), "")

    def test_patterns_that_never_stand_in_a_line(self):
        # Behind two ones there is always a zero.
        for pattern in ["1110", "11100", "01110", "11101"]:
            for bit in "01":
                self.assert_parting(ONES, Rule("01110", [("11", "0"), (pattern, bit)]), None)
        self.assert_parting(Rule("11", [("0", "1")]), Rule("11", [("0", "1"), ("001", "0")]), None)

    def test_other_patterns_for_the_same(self):
        # A one is put in behind each zero, whatever stands ahead of it.
        self.assert_parting(Rule("11", [("0", "1")]), Rule("11", [("10", "1"), ("00", "1")]), "0")
        self.assert_parting(Rule("11", [("01", "0")]), Rule("11", [("001", "0"), ("101", "0")]), "01")
        self.assert_parting(Rule("11", [("0", "1")]), Rule("00", [("0", "1")]), None)

    def test_flags_do_not_matter(self):
        for rule in some_rules(50, 32):
            self.assert_parting(rule, Rule("0" + rule.flag, rule.stuffs), None)

    def test_all_short_messages(self):
        known = list(some_rules(90, 33))
        for p, q in itertools.combinations_with_replacement(known, 2):
            self.compare(p, q, 4)

    def test_rules_that_differ_in_one_stuff(self):
        told = {True: 0, False: 0}
        for rule in rules("11", 1, 3):
            for pattern in words(4, 1):
                for bit in "01":
                    try:
                        other = Rule("0110", rule.stuffs + ((pattern, bit),))
                    except InvalidRule:
                        continue
                    self.compare(rule, other, 5)
                    told[alike(rule, other)] += 1
        self.assertGreater(min(told.values()), 50)

    def compare(self, p, q, longest):
        message = first_unlike(p, q, longest)
        if message is None:
            # With so few bits in the patterns, two rules part by then, or never.
            message = first_unlike(p, q, 9)
        self.assert_parting(p, q, message)


class CouldBe(unittest.TestCase):
    def setUp(self):
        self.enterContext(in_good_time(SECONDS))

    def test_by_hand(self):
        for flag, size, pairs, texts in [
                ("01110", 2, [("11", "110")], ["flag 01110 put 11:0"]), ("01110", 0, [], []),
                ("01110", 0, [("1", "1")], []),
                ("11", 1, [], ["flag 11 put 0:1", "flag 11 put 1:0"]),
                ("11", 1, [("", "")], ["flag 11 put 0:1", "flag 11 put 1:0"]),
                ("11", 1, [("", "0")], []), ("11", 1, [("1", "1")], ["flag 11 put 0:1"]),
                ("11", 1, [("1", "1"), ("0", "0")], []),
                ("11", 2, [("00", "001"), ("11", "11")], ["flag 11 put 00:1"]),
                ("11", 3, [("11", "11"), ("11", "110")], []),
                ("01", 2, [("01", "010")], ["flag 01 put 01:0", "flag 01 put 1:0"]),
                ("01", 2, [("01", "010"), ("101", "1010")], ["flag 01 put 01:0"])]:
            self.assertEqual(could_be(flag, size, pairs), tuple(texts), (flag, size, pairs))

    def test_no_rules_that_put_in_without_end(self):
        self.assertEqual(could_be("01", 2, []), tuple(sorted(
            ["flag 01 put " + stuff for stuff in ["0:1", "1:0", "00:1", "01:0", "01:1", "10:0", "10:1", "11:0"]])))

    def test_in_the_words_of_the_promise(self):
        for flag in ["11", "0110", "01110"]:
            known = list(rules(flag, 1, 3))
            for rule in known:
                for pairs in [[], [("", "")], [(message, plain_body(rule, message)) for message in ["11", "0010"]],
                              [(message, plain_body(rule, message)) for message in words(4)],
                              [("1111", plain_body(rule, "1111"))], [("11", plain_body(rule, "11") + "0")]]:
                    for size in range(4):
                        expected = [
                            str(one) for one in known if len(one.stuffs[0][0]) <= size
                            and all(plain_body(one, message) == line for message, line in pairs)]
                        self.assertEqual(could_be(flag, size, pairs), tuple(sorted(expected)))

    def test_ascending_texts(self):
        texts = could_be("011", 3, [])
        self.assertEqual(texts, tuple(sorted(texts)))
        self.assertEqual(texts[:3], ("flag 011 put 000:1", "flag 011 put 001:0", "flag 011 put 001:1"))
        self.assertEqual(len(texts), len(set(texts)))
        self.assertIs(texts.__class__, tuple)

    def test_sequences(self):
        for pairs in [[("11", "110")], (("11", "110"),)]:
            self.assertEqual(could_be("01110", 2, pairs), ("flag 01110 put 11:0",))
        pairs = [("11", "110"), ("1", "1")]
        could_be("01110", 2, pairs)
        self.assertEqual(pairs, [("11", "110"), ("1", "1")])


if __name__ == "__main__":
    unittest.main()
