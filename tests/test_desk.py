"""[25] and [26]: desks."""

import random
import unittest

from tests.helpers import HOWS, any_values, in_good_time, some_check, some_rules
from unseenflips.checks import Check
from unseenflips.clean import is_clean
from unseenflips.costs import rate
from unseenflips.desk import Desk
from unseenflips.errors import FlipError, InvalidCheck, InvalidCommand, InvalidRule, InvalidText
from unseenflips.lines import send
from unseenflips.live import Live
from unseenflips.rules import Rule
from unseenflips.unseen import first_unseen

ONES, ODD = Rule("01110", [("11", "0")]), Check("11")
PLAIN = Rule("01110")
FLAG = ONES.flag


def state(desk):
    """All that can be seen of a desk."""
    live = desk.live
    if live is None:
        return None
    return live, live.rule, live.check, live.heard, live.is_open, live.part, live.found, len(live)


def opened(rule=ONES, check=ODD):
    """A desk whose receiver has heard an opening flag."""
    desk = Desk()
    desk.say("rule " + str(rule))
    desk.say("check " + str(check))
    desk.say("hear " + rule.flag)
    return desk


class Commands(unittest.TestCase):
    def setUp(self):
        self.enterContext(in_good_time(60))

    def test_at_first(self):
        self.assertIsNone(Desk().live)

    def test_rule(self):
        desk = Desk()
        self.assertEqual(desk.say("rule flag 01110 put 11:0"), "clean")
        self.assertIs(desk.live.__class__, Live)
        self.assertEqual(state(desk)[1:], (ONES, Check(), "", False, "", (), 0))
        self.assertEqual(desk.say("rule flag 01110"), "spoiled")
        self.assertEqual(desk.live.rule, PLAIN)
        self.assertEqual(desk.say("rule flag 0010 put 111:0 001:1"), "clean")
        self.assertEqual(str(desk.live.rule), "flag 0010 put 001:1 111:0")

    def test_a_new_rule_has_a_new_receiver_and_no_check(self):
        desk = opened()
        desk.say("hear 11")
        before = desk.live
        self.assertEqual(desk.say("rule flag 11"), "spoiled")
        self.assertIsNot(desk.live, before)
        self.assertEqual(state(desk)[1:], (Rule("11"), Check(), "", False, "", (), 0))
        self.assertEqual(desk.say("send 1"), "111")
        self.assertEqual(before.heard, FLAG + "11")

    def test_check(self):
        desk = Desk()
        desk.say("rule " + str(ONES))
        for text, degree in [("11 start 0", "1"), ("1", "0"), ("1011 start 110", "3"), ("111 start 00", "2")]:
            desk.say("hear " + FLAG)
            before = desk.live
            self.assertEqual(desk.say("check " + text), degree)
            self.assertIsNot(desk.live, before)
            self.assertEqual(state(desk)[1:], (ONES, Check.read(text), "", False, "", (), 0))

    def test_send(self):
        desk = Desk()
        desk.say("rule " + str(ONES))
        self.assertEqual((desk.say("send 11"), desk.say("send 0")), ("11001110", "001110"))
        desk.say("check 11 start 0")
        self.assertEqual((desk.say("send 11"), desk.say("send 1"), desk.say("send 0")),
                         ("110001110", "11001110", "0001110"))
        self.assertEqual((desk.live.heard, len(desk.live)), ("", 0))

    def test_hear(self):
        desk = opened()
        self.assertEqual(desk.say("hear 110" + FLAG), "good 1")
        self.assertEqual(desk.say("hear 0" + FLAG), "good -")
        self.assertEqual(desk.say("hear 1"), "nothing")
        self.assertEqual(desk.say("hear " + FLAG), "check")
        self.assertEqual(desk.say("hear 11" + FLAG), "put")
        self.assertEqual(desk.say("hear " + FLAG), "nothing")
        self.assertEqual(desk.say("hear 11" + FLAG + "0" + FLAG + "1" + FLAG + "0110" + FLAG + "0"),
                         "put, good -, check, good 01")
        self.assertEqual(desk.say("hear 01100" + FLAG + FLAG + "110" + FLAG), "good 0011, good 1")
        self.assertEqual(desk.live.found[:3], (("good", "1"), ("good", ""), ("check", None)))
        self.assertEqual(len(desk.live), 9)

    def test_rate(self):
        desk = Desk()
        for text, expected in [
                ("flag 01110 put 11:0", "1/2"), ("flag 01110", "0/1"), ("flag 0010 put 001:1", "1/3"),
                ("flag 11 put 1:0", "1/1"), ("flag 00 put 0:1 01:1", "2/1")]:
            desk.say("rule " + text)
            self.assertEqual(desk.say("rate"), expected)
            desk.say("check 11 start 0")
            self.assertEqual(desk.say("rate"), expected)

    def test_turns(self):
        desk = Desk()
        desk.say("rule " + str(ONES))
        self.assertEqual([desk.say("turns " + how) for how in HOWS], ["1", "2", "3", "1"])
        desk.say("check 11 start 0")
        self.assertEqual([desk.say("turns " + how) for how in HOWS], ["never", "never", "3", "3"])
        # Only one bit is turned at most, and no bit is enough.
        desk.say("rule flag 11")
        self.assertEqual(desk.say("turns cut"), "1")
        desk.say("rule flag 01110")
        self.assertEqual([desk.say("turns " + how) for how in HOWS], ["1", "never", "4", "1"])
        desk.say("check 11 start 1")
        self.assertEqual(desk.say("turns same"), "never")

    def test_turns_in_few_bits(self):
        desk = Desk()
        desk.say("rule flag 0101 put 01:1 11:0")
        self.assertEqual(desk.say("check 111 start 00"), "2")
        self.assertEqual(desk.say("turns shift"), "1")
        desk.say("rule flag 110 put 00:1 11:0")
        desk.say("check 101 start 00")
        self.assertEqual(desk.say("turns shift"), "0")

    def test_undo(self):
        desk = opened()
        desk.say("hear 11")
        self.assertEqual((desk.say("undo"), desk.live.part, len(desk.live)), ("undone", "", 1))
        self.assertEqual((desk.say("undo"), desk.live.is_open, len(desk.live)), ("undone", False, 0))
        for _ in range(2):
            self.assertEqual((desk.say("undo"), desk.live.rule, desk.live.check), ("nothing", ONES, ODD))

    def test_undo_takes_back_nothing_from_before_a_rule_or_check(self):
        for command in ["rule flag 11", "check 11 start 1", "check 1"]:
            desk = opened()
            desk.say(command)
            before = state(desk)
            self.assertEqual(desk.say("undo"), "nothing")
            self.assertEqual(state(desk), before)

    def test_commands_that_tell_change_nothing(self):
        desk = opened()
        desk.say("hear 11")
        before = state(desk)
        for command in ["send 1", "rate"] + ["turns " + how for how in HOWS]:
            self.assertEqual(desk.say(command), desk.say(command))
            self.assertEqual(state(desk), before)

    def test_another_rule_on_the_way(self):
        desk = opened(PLAIN, ODD)
        desk.live.change(ONES)
        self.assertEqual((desk.say("rate"), desk.say("send 1"), desk.say("turns cut")), ("1/2", "11001110", "3"))
        self.assertEqual(desk.say("hear " + FLAG + "110" + FLAG), "good 1")
        self.assertEqual((desk.say("undo"), desk.live.rule), ("undone", ONES))
        self.assertEqual((desk.say("undo"), desk.live.rule, desk.say("rate")), ("undone", PLAIN, "0/1"))
        desk.live.change(ONES)
        self.assertEqual((desk.say("check 1"), desk.live.rule, desk.live.check), ("0", ONES, Check()))

    def test_the_receiver_may_be_used_in_between(self):
        desk = opened()
        self.assertEqual(desk.live.several(["11", "0"]), ((), ()))
        self.assertEqual(desk.say("hear " + FLAG), "good 1")
        self.assertEqual((desk.say("undo"), desk.say("undo"), desk.live.part), ("undone", "undone", ""))
        self.assertEqual(desk.live.within(lambda live: desk.say("hear 0" + FLAG)), "good -")
        self.assertEqual((desk.live.heard, len(desk.live)), (FLAG, 1))

    def test_tells_what_the_functions_tell(self):
        chance = random.Random(111)
        for rule in some_rules(60, 112, 5, 3):
            check = some_check(chance)
            desk, live = Desk(), Live(rule, check)
            self.assertEqual(desk.say("rule " + str(rule)), "clean" if is_clean(rule) else "spoiled")
            self.assertEqual(desk.say("check " + str(check)), str(check.degree))
            over, under = rate(rule)
            self.assertEqual(desk.say("rate"), str(over) + "/" + str(under))
            for how in HOWS:
                size = first_unseen(rule, check, ["turn"], 1, how)
                self.assertEqual(desk.say("turns " + how), "never" if size is None else str(size))
            for _ in range(6):
                data = "".join(chance.choice("01") for _ in range(chance.randint(1, 9)))
                line = send(rule, check, data)
                self.assertEqual(desk.say("send " + data), line)
                told = [reason if reason != "good" else "good " + (other or "-") for reason, other in live.hear(line)]
                self.assertEqual(desk.say("hear " + line), ", ".join(told) or "nothing")
            self.assertEqual((desk.live.found, desk.live.part), (live.found, live.part))

    def test_two_desks(self):
        one, other = opened(), Desk()
        self.assertIsNone(other.live)
        one.say("hear 11")
        other.say("rule flag 11")
        self.assertEqual((one.live.rule, one.live.part, other.live.heard), (ONES, "11", ""))


class Refusals(unittest.TestCase):
    def refused(self, desk, command, expected):
        """The error; nothing is changed behind it."""
        before = state(desk)
        with self.assertRaises(FlipError) as caught:
            desk.say(command)
        self.assertIs(caught.exception.__class__, expected, command)
        self.assertEqual(state(desk), before)
        return caught.exception

    def desks(self):
        yield Desk()
        yield opened()

    def test_no_strings(self):
        for desk in self.desks():
            for value in any_values() + [["rule flag 11"], ("rate",), ["undo"], b"undo"]:
                self.refused(desk, value, InvalidCommand)

    def test_newlines_and_empty_words(self):
        for desk in self.desks():
            for command in [
                    "", " ", "\n", "undo\n", "\nundo", "undo ", " undo", "un\ndo", "hear  1", "hear 1 ", " hear 1",
                    "hear 1\n", "hear\n1", "rule  flag 11", "rule flag  11", "rule flag 11 ", " rule flag 11",
                    "rule flag 11\n", "rule\nflag 11", "rule flag 11 put 1:0\n", "check  1", "check 1 ", "check 1\n",
                    "check 11 start  0", "rate ", "turns  cut", "turns cut ", "turns cut\n", "send  1", "rule ",
                    "rule \n", "rule x\ny"]:
                self.refused(desk, command, InvalidCommand)

    def test_other_forms(self):
        for desk in self.desks():
            for command in [
                    "rule", "check", "send", "hear", "turns", "rate 1", "undo 1", "undo undo", "send 1 0", "hear 1 0",
                    "send 2", "hear 2", "send -", "hear -", "hear 01a", "send 0b1", "turns 1", "turns some",
                    "turns cut same", "turns CUT", "turns cu", "turns same,", "Rule flag 11", "RATE", "rules flag 11",
                    "live", "Undo", "redo", "say undo", "help", "clean", "flag 11", "01", "0", "turn cut", "hears 1",
                    "sendhear 1", "hear\t1", "undo\t", "send \u0661"]:
                self.refused(desk, command, InvalidCommand)

    def test_not_yet(self):
        for command in ["check 1", "check 11 start 0", "check x", "check 11 start x", "send 1", "hear 1", "rate",
                        "turns any", "undo"]:
            desk = Desk()
            self.refused(desk, command, InvalidCommand)
            for text, expected in [("rule x", InvalidText), ("rule flag 1", InvalidRule)]:
                self.refused(desk, text, expected)
                # A rule that is refused makes no receiver.
                self.refused(desk, command, InvalidCommand)

    def test_rules(self):
        for desk in self.desks():
            for text in ["x", "rule", "flag", "01110", "flag x", "flag 11 put", "flag 11 put 1", "flag 11 put 1:2",
                         "flag 11 1:0", "put 1:0", "flag 11 put 1:0 x", "Flag 11", "11 flag", "flag\t11"]:
                self.assertEqual(self.refused(desk, "rule " + text, InvalidText).at, 0)
            for text, word in [("flag 1", "flag"), ("flag 0 put 1:0", "flag"), ("flag 00 put 1:0 01:1", "stuffs"),
                               ("flag 1 put 11:1", "flag"), ("flag 00 put 11:1", "endless"),
                               ("flag 11 put 1:0 1:0", "stuffs")]:
                self.assertEqual(self.refused(desk, "rule " + text, InvalidRule).word, word)

    def test_checks(self):
        desk = opened()
        for text in ["x", "0", "11", "11 start", "start 0", "11 start 2", "11 stop 0", "11 start 0 0", "11 0",
                     "start", "1 1"]:
            self.assertEqual(self.refused(desk, "check " + text, InvalidText).at, 0)
        for text, word in [("10 start 0", "poly"), ("01 start 0", "poly"), ("11 start 00", "start"),
                           ("0 start 00", "poly"), ("111 start 0", "start")]:
            self.assertEqual(self.refused(desk, "check " + text, InvalidCheck).word, word)

    def test_goes_on_behind_a_refusal(self):
        desk = opened()
        desk.say("hear 11")
        for command, expected in [("rule x", InvalidText), ("check 11 start 00", InvalidCheck),
                                  ("hear x", InvalidCommand), ("rule flag 1", InvalidRule)]:
            self.refused(desk, command, expected)
        self.assertEqual(desk.say("hear 0" + FLAG), "good 1")
        self.assertEqual([desk.say("undo") for _ in range(4)], ["undone"] * 3 + ["nothing"])


class Objects(unittest.TestCase):
    def test_not_iterable(self):
        for desk in [Desk(), opened()]:
            self.assertRaises(TypeError, iter, desk)
            self.assertRaises(TypeError, list, desk)
            self.assertRaises(TypeError, len, desk)

    def test_results_are_strings(self):
        desk = opened()
        for command in ["rate", "turns cut", "send 1", "hear 0", "undo", "check 1", "rule flag 11"]:
            self.assertIs(desk.say(command).__class__, str)


if __name__ == "__main__":
    unittest.main()
