"""[3]: what is allowed at most gets an answer in good time."""

import itertools
import random
import unittest

from tests.helpers import HOWS, KINDS, in_good_time, plain_body, plain_way, some_rules, words
from unseenflips.best import best_checks, cheapest, clean_rules
from unseenflips.checks import Check
from unseenflips.clean import clean_paper, clean_paper_holds, flag_at, is_clean, spoiled
from unseenflips.comparing import alike, could_be, parting
from unseenflips.costs import all_put, dearest, most_put, rate, rate_paper, rate_paper_holds
from unseenflips.desk import Desk
from unseenflips.errors import InvalidRule, Refused
from unseenflips.hits import hit, shifts
from unseenflips.lines import body, frames, receive, send, taken_out
from unseenflips.live import Live
from unseenflips.rules import Rule
from unseenflips.unseen import count_unseen, example, first_unseen, unseen_sizes

SECONDS = 20
CHANCE = random.Random(12)


def any_word(size):
    return "".join(CHANCE.choice("01") for _ in range(size))


def large_rules(many, flag_bits=6, pattern_bits=4):
    """So many rules with flags of so many bits and two patterns of so many bits, some of them clean."""
    while many > 0:
        flag = any_word(flag_bits)
        other = {"0": "1", "1": "0"}[flag[pattern_bits]]
        try:
            yield Rule(flag, [(flag[:pattern_bits], other), (any_word(pattern_bits), any_word(1))])
            many -= 1
        except InvalidRule:
            pass


class Limits(unittest.TestCase):
    def test_300_bits(self):
        rules = [
            Rule("01110", [("11", "0")]), Rule("011110", [("0111", "0"), ("1110", "0")]), Rule("10"),
            Rule("000000"), Rule("000000", [("0", "1")]), Rule("000000", [("0", "1"), ("111", "0")])]
        checks = [Check(), Check("11"), Check("10011", "1111")]
        with in_good_time(SECONDS):
            for rule, check in itertools.product(rules, checks):
                for data in ["0" * 300, "1" * 300, "01" * 150] + [any_word(300) for _ in range(10)]:
                    line = send(rule, check, data)
                    self.assertEqual(line, body(rule, data + check.bits_for(data)) + rule.flag)
                    self.assertEqual(taken_out(rule, line[:-len(rule.flag)]), data + check.bits_for(data))
                    for raw in [line, any_word(300), data]:
                        self.assertEqual(receive(rule, check, raw)[0] == "open", rule.flag not in raw)
                        self.assertLessEqual(len(frames(rule, check, raw)), len(raw))

    def test_longest_lines_of_clean_rules_come_back(self):
        ones, check = Rule("01110", [("11", "0")]), Check("10011", "0110")
        with in_good_time(SECONDS):
            for data in ["1" * 300, "0" * 300] + [any_word(300) for _ in range(20)]:
                self.assertEqual(receive(ones, check, send(ones, check, data)), ("good", data))
                self.assertEqual(frames(ones, check, send(ones, check, data) * 3), (("good", data),) * 3)

    def test_results_may_be_passed_on(self):
        ones = Rule("01110", [("1", "0")])
        line = "1" * 300
        with in_good_time(SECONDS):
            for _ in range(5):
                line = body(ones, line)
            self.assertEqual(len(line), 300 * 6)
            for _ in range(5):
                line = taken_out(ones, line)
        self.assertEqual(line, "1" * 300)

    def test_large_rules_are_made_read_and_written(self):
        patterns = list(words(8, 8))
        made = 0
        with in_good_time(SECONDS):
            for _ in range(3000):
                stuffs = [(pattern, CHANCE.choice("01")) for pattern in CHANCE.sample(patterns, 4)]
                try:
                    rule = Rule(any_word(8), stuffs)
                except InvalidRule as error:
                    self.assertEqual(error.word, "endless")
                    continue
                made += 1
                self.assertEqual(Rule.read(str(rule)), rule)
                self.assertEqual((len(rule), rule.longest, rule.swapped().swapped()), (4, 8, rule))
        self.assertGreater(made, 1000)

    def test_large_rules_of_one_character(self):
        with in_good_time(SECONDS):
            for last in "01":
                self.assertEqual(Rule("0" * 8, [("0" * 8, "1"), ("1" * 8, "0")]).longest, 8)
                with self.assertRaises(InvalidRule) as caught:
                    Rule("01111110", [("0" * 8, "0"), ("1" * 8, last)])
                self.assertEqual(caught.exception.word, "endless")

    def test_large_rules_that_put_in_without_end(self):
        # All four patterns follow each other round and round.
        around = [("00110011"[at:] + "00110011"[:at]) for at in range(4)]
        stuffs = [(word, word[0]) for word in around]
        with in_good_time(SECONDS), self.assertRaises(InvalidRule) as caught:
            Rule("01111110", stuffs)
        self.assertEqual(caught.exception.word, "endless")
        with in_good_time(SECONDS):
            self.assertEqual(len(Rule("01111110", stuffs[:3])), 3)

    def test_somewhat_beyond(self):
        rule = Rule("1" + "0" * 20, [("1" * 30, "0"), ("0" * 15, "1"), ("01" * 12, "1")])
        check = Check("1" + "0" * 30 + "1")
        with in_good_time(SECONDS):
            self.assertEqual(Rule.read(str(rule)), rule)
            for data in ["1" * 2000, "0" * 2000, any_word(2000)]:
                self.assertEqual(receive(rule, check, send(rule, check, data)), ("good", data))

    def test_sizes_of_300(self):
        with in_good_time(SECONDS):
            for rule in list(large_rules(12)) + [Rule("000000"), Rule("000000", [("0", "1"), ("01", "1")])]:
                message = dearest(rule, 300)
                self.assertEqual(len(message), 300)
                self.assertEqual(len(body(rule, message)), 300 + most_put(rule, 300))
                self.assertLessEqual(all_put(rule, 300), most_put(rule, 300) * 2 ** 300)
                for other in [any_word(300) for _ in range(5)]:
                    self.assertLessEqual(len(body(rule, other)), 300 + most_put(rule, 300))

    def test_sizes_of_300_by_hand(self):
        ones, all_zeros = Rule("01110", [("11", "0")]), Rule("11", [("0", "1")])
        twice = Rule("00", [("0", "1"), ("01", "1")])
        with in_good_time(SECONDS):
            self.assertEqual((most_put(ones, 300), dearest(ones, 300)), (150, "1" * 300))
            self.assertEqual((most_put(ones, 299), dearest(ones, 299)), (149, "0" + "1" * 298))
            self.assertEqual((most_put(all_zeros, 300), dearest(all_zeros, 300)), (300, "0" * 300))
            self.assertEqual(all_put(all_zeros, 300), 150 * 2 ** 300)
            self.assertEqual((most_put(twice, 300), rate(twice)), (600, (2, 1)))
            self.assertEqual((most_put(Rule("01"), 300), all_put(Rule("01"), 300)), (0, 0))

    def test_large_rules(self):
        kinds = ["double", "lose", "turn"]
        told = {True: 0, False: 0}
        with in_good_time(60):
            before = Rule("01110", [("11", "0")])
            for rule in large_rules(120):
                told[is_clean(rule)] += 1
                self.assertEqual(is_clean(rule), spoiled(rule) is None)
                self.assertEqual(clean_paper_holds(rule, clean_paper(rule)), is_clean(rule))
                self.assertTrue(rate_paper_holds(rule, rate(rule), rate_paper(rule, rate(rule))))
                self.assertEqual(alike(rule, before), parting(rule, before) is None)
                self.assertEqual(alike(rule, rule), True)
                self.assertEqual(shifts(rule, kinds), tuple(sorted(shifts(rule.swapped(), kinds))))
        self.assertGreater(min(told.values()), 10)

    def test_clean_papers_of_400_entries(self):
        with in_good_time(SECONDS):
            for rule in [Rule("01110", [("11", "0")]), Rule("011110", [("0111", "0")]), Rule("11", [("1", "0")])]:
                paper = clean_paper(rule)
                longer = paper + tuple(plain_body(rule, any_word(300)) for _ in range(400 - len(paper)))
                for value, expected in [(longer, True), (longer * 2, True), (longer[::-1], True), (longer[1:], False),
                                        (longer[:-1] + (longer[-1] + rule.flag,), False), (longer + ("01111",), False),
                                        (("",) * 400, False), (longer + (0,), False)]:
                    self.assertIs(clean_paper_holds(rule, value), expected)

    def test_rate_papers_of_400_entries(self):
        rule = Rule("000000", [("0", "1"), ("1111", "0")])
        paper = rate_paper(rule, (3, 1))
        standings = list(words(4))
        great = 10 ** 300
        with in_good_time(SECONDS):
            self.assertIs(rate_paper_holds(rule, (3, 1), paper), True)
            for value in [paper * 30, tuple((standing, (0, 1)) for standing in standings * 12 + standings),
                          tuple((any_word(300), (0, 1)) for _ in range(400)),
                          tuple(("", (at, 1)) for at in range(400))]:
                self.assertIs(rate_paper_holds(rule, (3, 1), value), False)
            even = tuple((standing, (great + 1, great)) for standing in standings)
            self.assertIs(rate_paper_holds(rule, (2, 1), even), True)
            self.assertIs(rate_paper_holds(rule, (great - 1, great), even), False)

    def test_values_of_many_digits(self):
        great = 10 ** 300
        ones = Rule("01110", [("11", "0")])
        with in_good_time(SECONDS):
            for value, expected in [((great // 2, great + 1), False), ((great // 2, great - 1), True),
                                    ((1, great), False), ((great, 1), True), ((-great, 1), False)]:
                paper = rate_paper(ones, value)
                self.assertEqual(paper is not None, expected)
                self.assertIs(rate_paper_holds(ones, value, paper), expected)

    def test_lines_of_300_bits(self):
        with in_good_time(SECONDS):
            for _ in range(50):
                line = any_word(300)
                self.assertEqual(hit(line, [(at, "lose") for at in range(300)]), "")
                self.assertEqual(hit(line, [(at, "double") for at in range(300)]), "".join(bit * 2 for bit in line))
                turns = [(at, "turn") for at in range(300)]
                self.assertEqual(hit(hit(line, turns), turns), line)
            for rule in large_rules(20):
                message = any_word(300)
                self.assertEqual(
                    flag_at(rule, message), (plain_body(rule, message) + rule.flag).index(rule.flag))

    def test_what_was_seen(self):
        rule = Rule("01110", [("011", "0")])
        pairs = [(message, plain_body(rule, message)) for message in ["0" * 300, "110" * 100] + [
            any_word(300) for _ in range(30)]]
        with in_good_time(SECONDS):
            self.assertEqual(could_be("01110", 3, pairs), ("flag 01110 put 011:0",))
            self.assertEqual(could_be("01110", 3, pairs[:1]), tuple(
                text for text in could_be("01110", 3, []) if "1" in text.split()[3].split(":")[0]))
            self.assertEqual(could_be("01110", 6, pairs), ("flag 01110 put 011:0",))

    def test_nets_of_rules_somewhat_beyond(self):
        with in_good_time(60):
            for rule in [Rule("01111110", [("11111", "0")]), Rule("10000001", [("00000", "1"), ("111", "0")])]:
                self.assertEqual((is_clean(rule), clean_paper_holds(rule, clean_paper(rule))), (True, True))
                self.assertTrue(rate_paper_holds(rule, rate(rule), rate_paper(rule, rate(rule))))
                self.assertIn(0, shifts(rule, ["turn"]))
                self.assertEqual(len(dearest(rule, 1000)), 1000)
            for rule in some_rules(10, 61):
                self.assertEqual(len(dearest(rule, 600)), 600)


class LimitsOfUnseen(unittest.TestCase):
    """Flags of 5 bits, two patterns of 3 bits, checks of degree 2, and 2 hits."""

    def asked(self, many):
        for rule in [Rule("01110"), Rule("00000", [("000", "1")]), *large_rules(many, 5, 3)]:
            for poly in ["101", "111"]:
                yield rule, Check(poly, any_word(2))

    def test_first_ones(self):
        for rule, check in self.asked(6):
            for kinds in [KINDS, ["turn"], ["lose", "double"]]:
                for how in HOWS:
                    with in_good_time(SECONDS):
                        first = first_unseen(rule, check, kinds, 2, how)
                        told = example(rule, check, kinds, 2, how)
                    self.assertEqual(first, None if told is None else len(told[0]))
                    if told is not None:
                        line = plain_body(rule, told[0] + check.bits_for(told[0]))
                        way = plain_way(rule, check, told[0], line, told[1])
                        self.assertIn(how, [way, "any"])
                        self.assertIsNotNone(way)

    def test_counts_and_sizes(self):
        for rule, check in self.asked(4):
            for kinds in [KINDS, ["turn"]]:
                for how in HOWS:
                    with in_good_time(SECONDS):
                        many = count_unseen(rule, check, kinds, 5, 2, how)
                        sizes = unseen_sizes(rule, check, kinds, 2, how, 8)
                    self.assertTrue(many == 0 or 5 in sizes)

    def test_never(self):
        # All places must be seen until it is known that there is no way.
        for rule in [Rule("01110", [("11", "0")]), Rule("00000", [("011", "0"), ("110", "1")])]:
            for check in [Check("101", "10"), Check("111", "01")]:
                with in_good_time(SECONDS):
                    self.assertEqual([first_unseen(rule, check, ["turn"], 0, how) for how in HOWS[:2]], [None] * 2)
                    self.assertIsNone(first_unseen(Rule(rule.flag), check, ["turn"], 2, "shift"))
                    self.assertIsNone(first_unseen(Rule(rule.flag), check, ["lose"], 2, "same"))
                    self.assertIsNone(first_unseen(Rule(rule.flag), check, KINDS, 1, "same"))

    def test_best_checks(self):
        for rule in large_rules(8, 5, 3):
            for kinds in [KINDS, ["turn"]]:
                for how in HOWS:
                    with in_good_time(SECONDS):
                        told = best_checks(rule, 2, kinds, 2, how)
                    self.assertIn(told, [("101",), ("111",), ("101", "111")])

    def test_clean_rules(self):
        for flag in ["01110", "00000", "01111", "11010", "01010"]:
            with in_good_time(SECONDS):
                self.assertLessEqual(set(cheapest(flag, 3)), set(clean_rules(flag, 3)))
                self.assertLessEqual(set(clean_rules(flag, 2)), set(clean_rules(flag, 3)))

    def test_somewhat_beyond(self):
        rule, check = Rule("011110", [("0111", "0"), ("1010", "1")]), Check("1011", "110")
        with in_good_time(60):
            for how in HOWS:
                self.assertEqual(example(rule, check, KINDS, 3, how) is None,
                                 first_unseen(rule, check, KINDS, 3, how) is None)
                self.assertGreaterEqual(count_unseen(rule, check, ["turn"], 8, 2, how), 0)
            # If a one comes last, the flag begins with it.
            told = [count_unseen(Rule("1111111"), Check(), ["turn"], 6, 3, how) for how in HOWS]
            self.assertEqual(told, [20 * 2 ** 5, 0, 20 * 2 ** 5, 20 * 2 ** 6])
            self.assertEqual(unseen_sizes(Rule("01110"), Check(), ["turn"], 1, "same", 40), tuple(range(1, 41)))
            self.assertEqual(best_checks(Rule("011110"), 4, ["turn"], 2, "same"), ("10011", "11001"))
            self.assertNotIn("flag 0111110 put 11111:0", clean_rules("0111110", 5))
            self.assertEqual(cheapest("0111110", 5), ("flag 0111110 put 01111:0", "flag 0111110 put 1111:0"))


class LimitsOfLive(unittest.TestCase):
    def test_40_changes_and_300_bits(self):
        ones, check = Rule("011110", [("0111", "0")]), Check("10011", "1111")
        others = [Rule("000000", [("000", "1"), ("1111", "0")]), Rule("10"), ones]
        with in_good_time(SECONDS):
            for _ in range(50):
                live = Live(ones, check)
                seen = []
                for at in range(40):
                    seen.append((live.rule, live.heard, live.is_open, live.part, live.found))
                    if at % 8 == 7:
                        live.change(others[at % 3])
                    elif at % 8 == 3:
                        live.several([any_word(4), live.rule.flag, "", any_word(5)])
                    else:
                        live.hear(any_word(7))
                self.assertEqual(len(live), 40)
                self.assertGreater(len(live.heard), 250)
                self.assertEqual(live.within(lambda given: [given.undo() for _ in range(41)]), [True] * 40 + [False])
                for before in reversed(seen):
                    self.assertIs(live.undo(), True)
                    self.assertEqual((live.rule, live.heard, live.is_open, live.part, live.found), before)
                self.assertIs(live.undo(), False)

    def test_300_bits_one_by_one(self):
        check = Check("10011", "0110")
        with in_good_time(SECONDS):
            for rule in [Rule("01110", [("11", "0")]), Rule("10"), Rule("000000", [("0", "1")])]:
                for raw in ["0" * 300, "1" * 300, "01" * 150, (rule.flag * 150)[:300], any_word(300)]:
                    live = Live(rule, check)
                    told = [live.hear(bit) for bit in raw]
                    self.assertEqual((sum(told, ()), len(live)), (live.found, 300))
                    self.assertEqual(live.found, frames(rule, check, raw.partition(rule.flag)[2]))

    def test_many_words(self):
        live = Live(Rule("11"), Check())
        with in_good_time(SECONDS):
            self.assertEqual(len(live.several(["01"] * 2000)), 2000)
            with self.assertRaises(Refused) as caught:
                live.several(["01"] * 2000 + ["2"])
        self.assertEqual((caught.exception.at, len(live), len(live.heard)), (2000, 1, 4000))

    def test_desk(self):
        desk = Desk()
        with in_good_time(SECONDS):
            for rule in large_rules(10, 5, 3):
                desk.say("rule " + str(rule))
                desk.say("check 111 start 01")
                self.assertEqual([desk.say("turns " + how) for how in HOWS], [
                    str(size).replace("None", "never") for size in (
                        first_unseen(rule, Check("111", "01"), ["turn"], 1, how) for how in HOWS)])
                data = any_word(300)
                self.assertEqual(desk.say("send " + data), send(rule, Check("111", "01"), data))
                desk.say("hear " + data)
                self.assertEqual(desk.live.heard, data)


if __name__ == "__main__":
    unittest.main()
