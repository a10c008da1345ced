"""What holds over several modules."""

import random
import unittest

from tests.helpers import HOWS, KINDS, in_good_time, some_check, some_rules
from unseenflips.best import best_checks, cheapest, clean_rules
from unseenflips.checks import Check
from unseenflips.clean import clean_paper, clean_paper_holds, flag_at, is_clean, spoiled
from unseenflips.comparing import alike, could_be, parting
from unseenflips.costs import all_put, dearest, most_put, rate, rate_paper, rate_paper_holds
from unseenflips.desk import Desk
from unseenflips.hits import hit, shifts
from unseenflips.lines import body, frames, receive, send, taken_out
from unseenflips.live import Live
from unseenflips.rules import Rule
from unseenflips.unseen import count_unseen, example, first_unseen, unseen_sizes

SECONDS = 120
ONES = Rule("01110", [("11", "0")])


def exchanged(word):
    """The word with 0 and 1 exchanged."""
    return word.translate(str.maketrans("01", "10"))


def some_data(chance, longest=12):
    return "".join(chance.choice("01") for _ in range(chance.randint(0, longest)))


class Sent(unittest.TestCase):
    def setUp(self):
        self.enterContext(in_good_time(SECONDS))

    def test_what_is_sent_is_received(self):
        chance = random.Random(121)
        clean = 0
        for rule in some_rules(300, 122):
            check = some_check(chance, 4)
            clean += is_clean(rule)
            for data in [some_data(chance) for _ in range(10)]:
                message, line = data + check.bits_for(data), send(rule, check, data)
                self.assertEqual(taken_out(rule, body(rule, message)), message)
                at = flag_at(rule, message)
                if is_clean(rule):
                    self.assertEqual(at, len(body(rule, message)))
                if at == len(body(rule, message)):
                    self.assertEqual(receive(rule, check, line), ("good", data))
                    self.assertEqual(frames(rule, check, line), (("good", data),) if message else ())
        self.assertGreater(clean, 30)

    def test_without_hits_other_data_come_from_spoiled_rules_only(self):
        chance = random.Random(123)
        cut = 0
        for rule in some_rules(150, 124, 5, 3):
            for check in [Check(), some_check(chance)]:
                told = example(rule, check, [], 0, "cut")
                if told is not None:
                    cut += 1
                    self.assertIs(is_clean(rule), False)
                    message = told[0] + check.bits_for(told[0])
                    self.assertLess(flag_at(rule, message), len(body(rule, message)))
                self.assertIsNone(first_unseen(rule, check, KINDS, 0, "same"))
                self.assertIsNone(first_unseen(rule, check, KINDS, 0, "shift"))
        self.assertGreater(cut, 50)


class Unseen(unittest.TestCase):
    def setUp(self):
        self.enterContext(in_good_time(SECONDS))

    def test_an_example_is_sent_and_hit_and_received_as_other_data(self):
        chance = random.Random(125)
        made = dict.fromkeys(HOWS, 0)
        for rule in some_rules(150, 126, 5, 3):
            check, kinds, hits = some_check(chance), chance.sample(KINDS, 2), chance.randint(1, 2)
            for how in HOWS:
                told = example(rule, check, kinds, hits, how)
                self.assertEqual(told is None, first_unseen(rule, check, kinds, hits, how) is None)
                if told is None:
                    continue
                data, found = told
                made[how] += 1
                self.assertLessEqual({kind for at, kind in found}, set(kinds))
                line = body(rule, data + check.bits_for(data))
                raw = hit(line, found) + rule.flag
                self.assertEqual(hit(line, list(found)) + rule.flag, raw)
                reason, other = receive(rule, check, raw)
                self.assertEqual(reason, "good")
                self.assertNotEqual(other, data)
                is_cut = raw.index(rule.flag) < len(raw) - len(rule.flag)
                way = "cut" if is_cut else "shift" if len(other) != len(data) else "same"
                self.assertIn(how, [way, "any"])
                self.heard_as(rule, check, raw, other)
        self.assertGreater(min(made.values()), 20)

    def heard_as(self, rule, check, raw, other):
        """A live receiver hears the other data, too, if they are not the empty part of a line."""
        live = Live(rule, check)
        for bit in rule.flag + raw:
            live.hear(bit)
        self.assertEqual(live.found, frames(rule, check, raw))
        if not raw.startswith(rule.flag):
            self.assertEqual(live.found[0], ("good", other))

    def test_shifts_are_those_of_one_hit(self):
        chance = random.Random(127)
        for rule in some_rules(150, 128, 5, 3):
            kinds = chance.sample(KINDS, chance.randint(1, 3))
            told = shifts(rule, kinds)
            is_shifted = first_unseen(rule, Check(), kinds, 1, "shift") is not None
            self.assertEqual(is_shifted, any(shift != 0 for shift in told))
            if first_unseen(rule, Check(), kinds, 1, "same") is not None:
                self.assertIn(0, told)


class Exchanged(unittest.TestCase):
    """Rules with 0 and 1 exchanged answer the same, exchanged."""

    def setUp(self):
        self.enterContext(in_good_time(SECONDS))

    def test_lines(self):
        chance = random.Random(131)
        for rule in some_rules(100, 132):
            other = rule.swapped()
            for data in [some_data(chance) for _ in range(5)]:
                self.assertEqual(body(other, exchanged(data)), exchanged(body(rule, data)))
                self.assertEqual(send(other, Check(), exchanged(data)), exchanged(send(rule, Check(), data)))
                raw = data + rule.flag + data + rule.flag + rule.flag
                told = receive(rule, Check(), raw)
                self.assertEqual(receive(other, Check(), exchanged(raw)), (told[0], told[1] and exchanged(told[1])))
                live, turned = Live(rule, Check()), Live(other, Check())
                live.hear(raw), turned.hear(exchanged(raw))
                self.assertEqual(turned.part, exchanged(live.part))
                self.assertEqual(
                    turned.found, tuple((reason, told and exchanged(told)) for reason, told in live.found))

    def test_rules(self):
        for rule in some_rules(100, 133, 5, 3):
            other = rule.swapped()
            self.assertEqual((is_clean(other), rate(other), most_put(other, 9), all_put(other, 7)),
                             (is_clean(rule), rate(rule), most_put(rule, 9), all_put(rule, 7)))
            self.assertEqual((spoiled(other) is None, len(spoiled(other) or "")),
                             (spoiled(rule) is None, len(spoiled(rule) or "")))
            paper, dear = clean_paper(rule), rate_paper(rule, rate(rule))
            if paper is not None:
                self.assertTrue(clean_paper_holds(other, tuple(exchanged(standing) for standing in paper)))
            turned = tuple((exchanged(standing), height) for standing, height in dear)
            self.assertTrue(rate_paper_holds(other, rate(rule), turned))
            self.assertEqual(len(body(other, dearest(other, 8))), len(body(rule, dearest(rule, 8))))
            self.assertEqual(alike(other, ONES.swapped()), alike(rule, ONES))
            first, turned = parting(rule, ONES), parting(other, ONES.swapped())
            self.assertEqual(first and len(first), turned and len(turned))
            self.assertEqual(could_be(other.flag, 3, [("00", body(other, "00"))]), tuple(sorted(
                str(Rule.read(text).swapped()) for text in could_be(rule.flag, 3, [("11", body(rule, "11"))]))))

    def test_hits(self):
        chance = random.Random(134)
        for rule in some_rules(100, 135, 5, 3):
            other, kinds, hits = rule.swapped(), chance.sample(KINDS, 2), chance.randint(0, 2)
            self.assertEqual(shifts(other, kinds), shifts(rule, kinds))
            for how in HOWS:
                asked = Check(), kinds, hits, how
                self.assertEqual(first_unseen(other, *asked), first_unseen(rule, *asked))
                self.assertEqual(unseen_sizes(other, *asked, 6), unseen_sizes(rule, *asked, 6))
                self.assertEqual(count_unseen(other, Check(), kinds, 4, hits, how),
                                 count_unseen(rule, Check(), kinds, 4, hits, how))
                told = example(rule, *asked)
                if told is not None:
                    line = exchanged(hit(body(rule, told[0]), told[1]))
                    self.assertEqual(hit(body(other, exchanged(told[0])), told[1]), line)
                    reason, data = receive(other, Check(), line + other.flag)
                    self.assertEqual((reason, data != exchanged(told[0])), ("good", True))


class AskedAgain(unittest.TestCase):
    """The same question has the same answer: again, behind others, and of objects made anew of their texts."""

    def setUp(self):
        self.enterContext(in_good_time(SECONDS))

    def asked(self, rule, check):
        """Many answers, one behind the other."""
        told = [is_clean(rule), spoiled(rule), clean_paper(rule), rate(rule), dearest(rule, 12), all_put(rule, 12),
                rate_paper(rule, (1, 2)), parting(rule, ONES), shifts(rule, KINDS), clean_rules(rule.flag, 2),
                cheapest(rule.flag, 2), send(rule, check, "0110"), best_checks(rule, 2, ["turn"], 1, "any")]
        for how in HOWS:
            told += [first_unseen(rule, check, ["turn"], 2, how), example(rule, check, ["lose"], 1, how),
                     count_unseen(rule, check, KINDS, 3, 1, how), unseen_sizes(rule, check, ["double"], 1, how, 5)]
        live, desk = Live(rule, check), Desk()
        told += [live.several(["0", rule.flag, "011" + rule.flag + "1"]), live.found, live.part, len(live)]
        told += [desk.say(command) for command in [
            "rule " + str(rule), "check " + str(check), "turns any", "rate", "send 011", "hear " + rule.flag * 2]]
        return told

    def test_again(self):
        chance = random.Random(141)
        pairs = [(rule, some_check(chance)) for rule in some_rules(40, 142, 5, 3)]
        first = [self.asked(rule, check) for rule, check in pairs]
        self.assertEqual([self.asked(rule, check) for rule, check in reversed(pairs)], first[::-1])
        anew = [(Rule.read(str(rule)), Check.read(str(check))) for rule, check in pairs]
        self.assertEqual(anew, pairs)
        self.assertEqual([self.asked(rule, check) for rule, check in anew], first)

    def test_stuffs_in_another_order(self):
        for rule in some_rules(60, 143, 5, 3):
            other = Rule(rule.flag, list(rule.stuffs[::-1]))
            self.assertEqual(self.asked(other, Check("11", "1")), self.asked(rule, Check("11", "1")))


if __name__ == "__main__":
    unittest.main()
