"""[3]: what is allowed at most gets an answer in good time."""

import itertools
import random
import unittest

from tests.helpers import in_good_time, words
from unseenflips.checks import Check
from unseenflips.errors import InvalidRule
from unseenflips.lines import body, frames, receive, send, taken_out
from unseenflips.rules import Rule

SECONDS = 20
CHANCE = random.Random(12)


def any_word(size):
    return "".join(CHANCE.choice("01") for _ in range(size))


class Limits(unittest.TestCase):
    def test_300_bits(self):
        rules = [
            Rule("01110", [("11", "0")]), Rule("011110", [("0111", "0"), ("1110", "0")]), Rule("10"),
            Rule("000000"), Rule("000000", [("0", "1")]), Rule("000000", [("0", "1"), ("111", "0")])]
        checks = [Check(), Check("11"), Check("10011", "1111")]
        with in_good_time(SECONDS):
            for rule, check in itertools.product(rules, checks):
                for data in ["0" * 300, "1" * 300, "01" * 150] + [any_word(300) for _ in range(10)]:
                    line = send(rule, check, data)
                    self.assertEqual(line, body(rule, data + check.bits_for(data)) + rule.flag)
                    self.assertEqual(taken_out(rule, line[:-len(rule.flag)]), data + check.bits_for(data))
                    for raw in [line, any_word(300), data]:
                        self.assertEqual(receive(rule, check, raw)[0] == "open", rule.flag not in raw)
                        self.assertLessEqual(len(frames(rule, check, raw)), len(raw))

    def test_longest_lines_of_clean_rules_come_back(self):
        ones, check = Rule("01110", [("11", "0")]), Check("10011", "0110")
        with in_good_time(SECONDS):
            for data in ["1" * 300, "0" * 300] + [any_word(300) for _ in range(20)]:
                self.assertEqual(receive(ones, check, send(ones, check, data)), ("good", data))
                self.assertEqual(frames(ones, check, send(ones, check, data) * 3), (("good", data),) * 3)

    def test_results_may_be_passed_on(self):
        ones = Rule("01110", [("1", "0")])
        line = "1" * 300
        with in_good_time(SECONDS):
            for _ in range(5):
                line = body(ones, line)
            self.assertEqual(len(line), 300 * 6)
            for _ in range(5):
                line = taken_out(ones, line)
        self.assertEqual(line, "1" * 300)

    def test_large_rules_are_made_read_and_written(self):
        patterns = list(words(8, 8))
        made = 0
        with in_good_time(SECONDS):
            for _ in range(3000):
                stuffs = [(pattern, CHANCE.choice("01")) for pattern in CHANCE.sample(patterns, 4)]
                try:
                    rule = Rule(any_word(8), stuffs)
                except InvalidRule as error:
                    self.assertEqual(error.word, "endless")
                    continue
                made += 1
                self.assertEqual(Rule.read(str(rule)), rule)
                self.assertEqual((len(rule), rule.longest, rule.swapped().swapped()), (4, 8, rule))
        self.assertGreater(made, 1000)

    def test_large_rules_of_one_character(self):
        with in_good_time(SECONDS):
            for last in "01":
                self.assertEqual(Rule("0" * 8, [("0" * 8, "1"), ("1" * 8, "0")]).longest, 8)
                with self.assertRaises(InvalidRule) as caught:
                    Rule("01111110", [("0" * 8, "0"), ("1" * 8, last)])
                self.assertEqual(caught.exception.word, "endless")

    def test_large_rules_that_put_in_without_end(self):
        # All four patterns follow each other round and round.
        around = [("00110011"[at:] + "00110011"[:at]) for at in range(4)]
        stuffs = [(word, word[0]) for word in around]
        with in_good_time(SECONDS), self.assertRaises(InvalidRule) as caught:
            Rule("01111110", stuffs)
        self.assertEqual(caught.exception.word, "endless")
        with in_good_time(SECONDS):
            self.assertEqual(len(Rule("01111110", stuffs[:3])), 3)

    def test_somewhat_beyond(self):
        rule = Rule("1" + "0" * 20, [("1" * 30, "0"), ("0" * 15, "1"), ("01" * 12, "1")])
        check = Check("1" + "0" * 30 + "1")
        with in_good_time(SECONDS):
            self.assertEqual(Rule.read(str(rule)), rule)
            for data in ["1" * 2000, "0" * 2000, any_word(2000)]:
                self.assertEqual(receive(rule, check, send(rule, check, data)), ("good", data))


if __name__ == "__main__":
    unittest.main()
