"""[3]: what is allowed at most gets an answer in good time."""

import itertools
import random
import unittest

from tests.helpers import in_good_time, plain_body, some_rules, words
from unseenflips.checks import Check
from unseenflips.clean import clean_paper, clean_paper_holds, flag_at, is_clean, spoiled
from unseenflips.comparing import alike, could_be, parting
from unseenflips.costs import all_put, dearest, most_put, rate, rate_paper, rate_paper_holds
from unseenflips.errors import InvalidRule
from unseenflips.hits import hit, shifts
from unseenflips.lines import body, frames, receive, send, taken_out
from unseenflips.rules import Rule

SECONDS = 20
CHANCE = random.Random(12)


def any_word(size):
    return "".join(CHANCE.choice("01") for _ in range(size))


def large_rules(many):
    """So many rules with flags of 6 bits and two patterns of 4 bits, some of them clean."""
    while many > 0:
        flag = any_word(6)
        other = {"0": "1", "1": "0"}[flag[4]]
        try:
            yield Rule(flag, [(flag[:4], other), (any_word(4), any_word(1))])
            many -= 1
        except InvalidRule:
            pass


class Limits(unittest.TestCase):
    def test_300_bits(self):
        rules = [
            Rule("01110", [("11", "0")]), Rule("011110", [("0111", "0"), ("1110", "0")]), Rule("10"),
            Rule("000000"), Rule("000000", [("0", "1")]), Rule("000000", [("0", "1"), ("111", "0")])]
        checks = [Check(), Check("11"), Check("10011", "1111")]
        with in_good_time(SECONDS):
            for rule, check in itertools.product(rules, checks):
                for data in ["0" * 300, "1" * 300, "01" * 150] + [any_word(300) for _ in range(10)]:
                    line = send(rule, check, data)
                    self.assertEqual(line, body(rule, data + check.bits_for(data)) + rule.flag)
                    self.assertEqual(taken_out(rule, line[:-len(rule.flag)]), data + check.bits_for(data))
                    for raw in [line, any_word(300), data]:
                        self.assertEqual(receive(rule, check, raw)[0] == "open", rule.flag not in raw)
                        self.assertLessEqual(len(frames(rule, check, raw)), len(raw))

    def test_longest_lines_of_clean_rules_come_back(self):
        ones, check = Rule("01110", [("11", "0")]), Check("10011", "0110")
        with in_good_time(SECONDS):
            for data in ["1" * 300, "0" * 300] + [any_word(300) for _ in range(20)]:
                self.assertEqual(receive(ones, check, send(ones, check, data)), ("good", data))
                self.assertEqual(frames(ones, check, send(ones, check, data) * 3), (("good", data),) * 3)

    def test_results_may_be_passed_on(self):
        ones = Rule("01110", [("1", "0")])
        line = "1" * 300
        with in_good_time(SECONDS):
            for _ in range(5):
                line = body(ones, line)
            self.assertEqual(len(line), 300 * 6)
            for _ in range(5):
                line = taken_out(ones, line)
        self.assertEqual(line, "1" * 300)

    def test_large_rules_are_made_read_and_written(self):
        patterns = list(words(8, 8))
        made = 0
        with in_good_time(SECONDS):
            for _ in range(3000):
                stuffs = [(pattern, CHANCE.choice("01")) for pattern in CHANCE.sample(patterns, 4)]
                try:
                    rule = Rule(any_word(8), stuffs)
                except InvalidRule as error:
                    self.assertEqual(error.word, "endless")
                    continue
                made += 1
                self.assertEqual(Rule.read(str(rule)), rule)
                self.assertEqual((len(rule), rule.longest, rule.swapped().swapped()), (4, 8, rule))
        self.assertGreater(made, 1000)

    def test_large_rules_of_one_character(self):
        with in_good_time(SECONDS):
            for last in "01":
                self.assertEqual(Rule("0" * 8, [("0" * 8, "1"), ("1" * 8, "0")]).longest, 8)
                with self.assertRaises(InvalidRule) as caught:
                    Rule("01111110", [("0" * 8, "0"), ("1" * 8, last)])
                self.assertEqual(caught.exception.word, "endless")

    def test_large_rules_that_put_in_without_end(self):
        # All four patterns follow each other round and round.
        around = [("00110011"[at:] + "00110011"[:at]) for at in range(4)]
        stuffs = [(word, word[0]) for word in around]
        with in_good_time(SECONDS), self.assertRaises(InvalidRule) as caught:
            Rule("01111110", stuffs)
        self.assertEqual(caught.exception.word, "endless")
        with in_good_time(SECONDS):
            self.assertEqual(len(Rule("01111110", stuffs[:3])), 3)

    def test_somewhat_beyond(self):
        rule = Rule("1" + "0" * 20, [("1" * 30, "0"), ("0" * 15, "1"), ("01" * 12, "1")])
        check = Check("1" + "0" * 30 + "1")
        with in_good_time(SECONDS):
            self.assertEqual(Rule.read(str(rule)), rule)
            for data in ["1" * 2000, "0" * 2000, any_word(2000)]:
                self.assertEqual(receive(rule, check, send(rule, check, data)), ("good", data))

    def test_sizes_of_300(self):
        with in_good_time(SECONDS):
            for rule in list(large_rules(12)) + [Rule("000000"), Rule("000000", [("0", "1"), ("01", "1")])]:
                message = dearest(rule, 300)
                self.assertEqual(len(message), 300)
                self.assertEqual(len(body(rule, message)), 300 + most_put(rule, 300))
                self.assertLessEqual(all_put(rule, 300), most_put(rule, 300) * 2 ** 300)
                for other in [any_word(300) for _ in range(5)]:
                    self.assertLessEqual(len(body(rule, other)), 300 + most_put(rule, 300))

    def test_sizes_of_300_by_hand(self):
        ones, all_zeros = Rule("01110", [("11", "0")]), Rule("11", [("0", "1")])
        twice = Rule("00", [("0", "1"), ("01", "1")])
        with in_good_time(SECONDS):
            self.assertEqual((most_put(ones, 300), dearest(ones, 300)), (150, "1" * 300))
            self.assertEqual((most_put(ones, 299), dearest(ones, 299)), (149, "0" + "1" * 298))
            self.assertEqual((most_put(all_zeros, 300), dearest(all_zeros, 300)), (300, "0" * 300))
            self.assertEqual(all_put(all_zeros, 300), 150 * 2 ** 300)
            self.assertEqual((most_put(twice, 300), rate(twice)), (600, (2, 1)))
            self.assertEqual((most_put(Rule("01"), 300), all_put(Rule("01"), 300)), (0, 0))

    def test_large_rules(self):
        kinds = ["double", "lose", "turn"]
        told = {True: 0, False: 0}
        with in_good_time(60):
            before = Rule("01110", [("11", "0")])
            for rule in large_rules(120):
                told[is_clean(rule)] += 1
                self.assertEqual(is_clean(rule), spoiled(rule) is None)
                self.assertEqual(clean_paper_holds(rule, clean_paper(rule)), is_clean(rule))
                self.assertTrue(rate_paper_holds(rule, rate(rule), rate_paper(rule, rate(rule))))
                self.assertEqual(alike(rule, before), parting(rule, before) is None)
                self.assertEqual(alike(rule, rule), True)
                self.assertEqual(shifts(rule, kinds), tuple(sorted(shifts(rule.swapped(), kinds))))
        self.assertGreater(min(told.values()), 10)

    def test_clean_papers_of_400_entries(self):
        with in_good_time(SECONDS):
            for rule in [Rule("01110", [("11", "0")]), Rule("011110", [("0111", "0")]), Rule("11", [("1", "0")])]:
                paper = clean_paper(rule)
                longer = paper + tuple(plain_body(rule, any_word(300)) for _ in range(400 - len(paper)))
                for value, expected in [(longer, True), (longer * 2, True), (longer[::-1], True), (longer[1:], False),
                                        (longer[:-1] + (longer[-1] + rule.flag,), False), (longer + ("01111",), False),
                                        (("",) * 400, False), (longer + (0,), False)]:
                    self.assertIs(clean_paper_holds(rule, value), expected)

    def test_rate_papers_of_400_entries(self):
        rule = Rule("000000", [("0", "1"), ("1111", "0")])
        paper = rate_paper(rule, (3, 1))
        standings = list(words(4))
        great = 10 ** 300
        with in_good_time(SECONDS):
            self.assertIs(rate_paper_holds(rule, (3, 1), paper), True)
            for value in [paper * 30, tuple((standing, (0, 1)) for standing in standings * 12 + standings),
                          tuple((any_word(300), (0, 1)) for _ in range(400)),
                          tuple(("", (at, 1)) for at in range(400))]:
                self.assertIs(rate_paper_holds(rule, (3, 1), value), False)
            even = tuple((standing, (great + 1, great)) for standing in standings)
            self.assertIs(rate_paper_holds(rule, (2, 1), even), True)
            self.assertIs(rate_paper_holds(rule, (great - 1, great), even), False)

    def test_values_of_many_digits(self):
        great = 10 ** 300
        ones = Rule("01110", [("11", "0")])
        with in_good_time(SECONDS):
            for value, expected in [((great // 2, great + 1), False), ((great // 2, great - 1), True),
                                    ((1, great), False), ((great, 1), True), ((-great, 1), False)]:
                paper = rate_paper(ones, value)
                self.assertEqual(paper is not None, expected)
                self.assertIs(rate_paper_holds(ones, value, paper), expected)

    def test_lines_of_300_bits(self):
        with in_good_time(SECONDS):
            for _ in range(50):
                line = any_word(300)
                self.assertEqual(hit(line, [(at, "lose") for at in range(300)]), "")
                self.assertEqual(hit(line, [(at, "double") for at in range(300)]), "".join(bit * 2 for bit in line))
                turns = [(at, "turn") for at in range(300)]
                self.assertEqual(hit(hit(line, turns), turns), line)
            for rule in large_rules(20):
                message = any_word(300)
                self.assertEqual(
                    flag_at(rule, message), (plain_body(rule, message) + rule.flag).index(rule.flag))

    def test_what_was_seen(self):
        rule = Rule("01110", [("011", "0")])
        pairs = [(message, plain_body(rule, message)) for message in ["0" * 300, "110" * 100] + [
            any_word(300) for _ in range(30)]]
        with in_good_time(SECONDS):
            self.assertEqual(could_be("01110", 3, pairs), ("flag 01110 put 011:0",))
            self.assertEqual(could_be("01110", 3, pairs[:1]), tuple(
                text for text in could_be("01110", 3, []) if "1" in text.split()[3].split(":")[0]))
            self.assertEqual(could_be("01110", 6, pairs), ("flag 01110 put 011:0",))

    def test_nets_of_rules_somewhat_beyond(self):
        with in_good_time(60):
            for rule in [Rule("01111110", [("11111", "0")]), Rule("10000001", [("00000", "1"), ("111", "0")])]:
                self.assertEqual((is_clean(rule), clean_paper_holds(rule, clean_paper(rule))), (True, True))
                self.assertTrue(rate_paper_holds(rule, rate(rule), rate_paper(rule, rate(rule))))
                self.assertIn(0, shifts(rule, ["turn"]))
                self.assertEqual(len(dearest(rule, 1000)), 1000)
            for rule in some_rules(10, 61):
                self.assertEqual(len(dearest(rule, 600)), 600)


if __name__ == "__main__":
    unittest.main()
