"""[23] and [24]: live receivers."""

import itertools
import random
import unittest

from tests.helpers import any_values, some_check, some_rules, words
from unseenflips.checks import Check
from unseenflips.errors import FlipError, InvalidWord, Refused
from unseenflips.lines import frames, send
from unseenflips.live import Live
from unseenflips.rules import Rule

ONES, ODD = Rule("01110", [("11", "0")]), Check("11")
ZEROS = Rule("0010", [("001", "1")])
PLAIN = Rule("11")
FLAG = ONES.flag


def state(live):
    """All that can be seen of a live receiver."""
    return live.rule, live.check, live.heard, live.is_open, live.part, live.found, len(live)


def opened(rule=ONES, check=ODD):
    live = Live(rule, check)
    live.hear(rule.flag)
    return live


def pieces(chance, raw):
    """The line, cut into words at some places, of which some are empty."""
    at = 0
    while at < len(raw):
        size = min(chance.randint(0, 4), len(raw) - at)
        yield raw[at:at + size]
        at += size


class Heard(unittest.TestCase):
    def test_at_first(self):
        live = Live(ONES, ODD)
        self.assertEqual(state(live), (ONES, ODD, "", False, "", (), 0))
        self.assertIs(live.rule, ONES)
        self.assertIs(live.check, ODD)
        self.assertIs(live.is_open, False)

    def test_waits_for_an_opening_flag(self):
        live = Live(ONES, Check())
        self.assertEqual(live.hear("1011"), ())
        self.assertEqual((live.is_open, live.part, live.heard, live.found), (False, "", "1011", ()))
        # What stands ahead of the first flag is no frame.
        self.assertEqual(live.hear("10"), ())
        self.assertEqual((live.is_open, live.part, live.heard), (True, "", "101110"))
        self.assertEqual(live.hear("1"), ())
        self.assertEqual((live.is_open, live.part, live.found), (True, "1", ()))
        self.assertEqual(live.hear(FLAG), (("good", "1"),))
        self.assertEqual((live.part, live.found, live.heard), ("", (("good", "1"),), "101110" + "1" + FLAG))

    def test_each_flag_closes_and_opens(self):
        live = opened(check=Check())
        self.assertEqual(live.hear("1" + FLAG + "00" + FLAG), (("good", "1"), ("good", "00")))
        self.assertEqual(live.hear("0" + FLAG + "10"), (("good", "0"),))
        self.assertEqual(live.found, (("good", "1"), ("good", "00"), ("good", "0")))
        self.assertEqual(live.part, "10")

    def test_all_reasons(self):
        live = opened()
        self.assertEqual(live.hear("11" + FLAG), (("put", None),))
        self.assertEqual(live.hear("1" + FLAG), (("check", None),))
        self.assertEqual(live.hear("110" + FLAG), (("good", "1"),))
        self.assertEqual(live.hear("0" + FLAG), (("good", ""),))
        self.assertEqual(live.found, (("put", None), ("check", None), ("good", "1"), ("good", "")))

    def test_empty_parts_are_no_frames(self):
        live = opened(check=Check())
        self.assertEqual(live.hear(FLAG), ())
        self.assertEqual(live.hear(FLAG * 3), ())
        self.assertEqual(live.hear(FLAG + "1" + FLAG + FLAG + "0" + FLAG), (("good", "1"), ("good", "0")))
        self.assertEqual(live.part, "")

    def test_flag_across_pieces(self):
        for first, second in itertools.product(range(1, 5), repeat=2):
            live = Live(ONES, ODD)
            self.assertEqual(live.hear("1" + FLAG[:first]), ())
            self.assertIs(live.is_open, False)
            self.assertEqual(live.hear(FLAG[first:] + "110" + FLAG[:second]), ())
            self.assertEqual((live.is_open, live.part), (True, "110" + FLAG[:second]))
            self.assertEqual(live.hear(FLAG[second:]), (("good", "1"),))

    def test_bit_by_bit(self):
        live = Live(ONES, ODD)
        told = [live.hear(bit) for bit in "00" + FLAG + "110" + FLAG + "00" + FLAG]
        self.assertEqual(told, [()] * 14 + [(("good", "1"),)] + [()] * 6 + [(("good", "0"),)])
        self.assertEqual(len(live), 22)

    def test_flags_do_not_overlap(self):
        # The last bit of a flag is not the first one of the next flag.
        live = Live(Rule("101"), Check())
        live.hear("10101")
        self.assertEqual((live.is_open, live.part, live.found), (True, "01", ()))
        self.assertEqual(live.hear("01"), (("good", "0"),))
        live = Live(PLAIN, Check())
        live.hear("111")
        self.assertEqual((live.part, live.hear("1"), live.part), ("1", (), ""))

    def test_empty_word(self):
        live = Live(ONES, ODD)
        self.assertEqual((live.hear(""), live.hear(""), len(live), live.heard), ((), (), 2, ""))
        live.hear(FLAG + "110")
        self.assertEqual((live.hear(""), live.part, live.heard), ((), "110", FLAG + "110"))

    def test_line_in_all_pieces(self):
        for raw in words(9, 9):
            for rule in [PLAIN, Rule("10", [("00", "1")]), Rule("010", [("00", "1")])]:
                whole = Live(rule, Check())
                whole.hear(raw)
                single = Live(rule, Check())
                told = [single.hear(bit) for bit in raw]
                self.assertEqual(state(single)[:6], state(whole)[:6])
                self.assertEqual(sum(told, ()), single.found)
                behind = raw.partition(rule.flag)[2]
                self.assertEqual(whole.found, frames(rule, Check(), behind))
                self.assertEqual((whole.is_open, whole.part), (rule.flag in raw, behind.split(rule.flag)[-1]))

    def test_some_lines_in_some_pieces(self):
        chance = random.Random(101)
        for rule in some_rules(200, 102):
            check = some_check(chance, 4)
            raw = "".join(chance.choice("01") for _ in range(40))
            for _ in range(4):
                data = "".join(chance.choice("01") for _ in range(chance.randint(0, 8)))
                raw += rule.flag * chance.randint(0, 1) + send(rule, check, data)
            live, several = Live(rule, check), Live(rule, check)
            parts = list(pieces(chance, raw))
            told = tuple(live.hear(part) for part in parts)
            behind = raw.partition(rule.flag)[2]
            self.assertEqual(live.found, frames(rule, check, behind))
            self.assertEqual(sum(told, ()), live.found)
            self.assertEqual((live.heard, live.is_open, live.part), (raw, True, behind.split(rule.flag)[-1]))
            self.assertEqual(several.several(parts), told)
            self.assertEqual(state(several)[:6], state(live)[:6])
            self.assertEqual((len(live), len(several)), (len(parts), 1))

    def test_no_word(self):
        for live in [Live(ONES, ODD), opened()]:
            live.hear("011")
            before = state(live)
            for value in any_values():
                with self.assertRaises(FlipError) as caught:
                    live.hear(value)
                self.assertIs(caught.exception.__class__, InvalidWord)
                self.assertEqual(state(live), before)
            live.hear("10110" + FLAG)
            self.assertEqual(live.found[-1:], (("good", "1"),))


class Several(unittest.TestCase):
    def test_what_each_returned(self):
        for sequence in [list, tuple]:
            live = Live(ONES, ODD)
            told = live.several(sequence(["0", FLAG + "1", "10" + FLAG + "00" + FLAG, "", "1"]))
            self.assertEqual(told, ((), (), (("good", "1"), ("good", "0")), (), ()))
            self.assertEqual((live.found, live.part, len(live)), ((("good", "1"), ("good", "0")), "1", 1))
            self.assertIs(live.undo(), True)
            self.assertEqual(state(live), state(Live(ONES, ODD)))

    def test_no_words(self):
        for none in [[], ()]:
            live = opened()
            self.assertEqual((live.several(none), len(live), live.heard), ((), 2, FLAG))
            self.assertEqual((live.undo(), len(live), live.is_open), (True, 1, True))

    def test_argument_stays(self):
        given = ["1", "0"]
        live = Live(ONES, ODD)
        live.several(given)
        given.append("1")
        self.assertEqual((live.heard, given), ("10", ["1", "0", "1"]))

    def refused(self, live, value):
        """The error that is raised; nothing is changed behind it."""
        before = state(live)
        with self.assertRaises(FlipError) as caught:
            live.several(value)
        self.assertEqual(state(live), before)
        self.assertIs(caught.exception.__class__, Refused)
        self.assertIs(caught.exception.at.__class__, int)
        return caught.exception

    def test_no_sequence(self):
        live = opened()
        for value in any_values() + ["", "01", "0", {}, "0110"]:
            if not isinstance(value, (list, tuple)):
                error = self.refused(live, value)
                self.assertEqual(error.at, 0)
                self.assertIsNone(error.__cause__)
                self.assertIsNone(error.__context__)

    def test_wrong_words(self):
        live = opened()
        for value in any_values():
            for words_ahead in [[], ["110" + FLAG], ["", "0", "1"]]:
                for behind in [[], ["0"], [None, 7]]:
                    for sequence in [list, tuple]:
                        error = self.refused(live, sequence(words_ahead + [value] + behind))
                        self.assertEqual(error.at, len(words_ahead))
                        self.assertIs(error.__cause__.__class__, InvalidWord)

    def test_the_first_wrong_one_is_told(self):
        live = Live(ONES, ODD)
        self.assertEqual(self.refused(live, [FLAG, "2", None, 3]).at, 1)
        self.assertEqual(self.refused(live, ["0", "1", ["0"], "2"]).at, 2)
        self.assertEqual(self.refused(live, [["0"]]).at, 0)
        self.assertEqual(self.refused(live, (("0", "1"), "0")).at, 0)

    def test_goes_on_behind_a_refusal(self):
        live = opened()
        live.hear("1")
        self.refused(live, ["10" + FLAG, "x"])
        self.assertEqual(live.several(["10", FLAG]), ((), (("good", "1"),)))


class Changed(unittest.TestCase):
    def test_waits_again(self):
        live = opened()
        live.hear("110" + FLAG + "0111")
        self.assertIsNone(live.change(ZEROS))
        heard = FLAG + "110" + FLAG + "0111"
        self.assertEqual(state(live), (ZEROS, ODD, heard, False, "", (("good", "1"),), 3))
        # What was heard before does not count for the opening flag, and another flag is none.
        self.assertEqual(live.hear("0" + FLAG), ())
        self.assertEqual((live.is_open, live.part), (False, ""))
        self.assertEqual(live.hear("0010" + "0011" + "1" + "0010"), (("good", "001"),))
        self.assertEqual(live.found, (("good", "1"), ("good", "001")))
        self.assertEqual(live.heard, heard + "0" + FLAG + "0010" + "00111" + "0010")

    def test_flag_across_a_change(self):
        for at in range(1, len(FLAG)):
            live = Live(ONES, ODD)
            live.hear(FLAG[:at])
            live.change(ONES)
            live.hear(FLAG[at:])
            self.assertEqual((live.is_open, live.heard, len(live)), (False, FLAG, 3))
            live.undo(), live.undo()
            live.hear(FLAG[at:])
            self.assertEqual((live.is_open, live.heard, len(live)), (True, FLAG, 2))

    def test_to_the_same_rule(self):
        live = opened()
        live.hear("110")
        live.change(ONES)
        self.assertEqual(state(live), (ONES, ODD, FLAG + "110", False, "", (), 3))
        self.assertEqual(live.hear(FLAG), ())
        self.assertEqual((live.is_open, live.part, live.found), (True, "", ()))

    def test_before_anything_was_heard(self):
        live = Live(ONES, ODD)
        live.change(PLAIN)
        self.assertEqual(state(live), (PLAIN, ODD, "", False, "", (), 1))
        self.assertEqual(live.hear("11" + "101" + "0" + "11"), (("good", "101"),))

    def test_other_receivers_stay(self):
        live, other = opened(), opened()
        live.change(ZEROS)
        live.hear("0010")
        self.assertEqual(state(other), state(opened()))


class TakenBack(unittest.TestCase):
    def test_nothing(self):
        live = Live(ONES, ODD)
        for _ in range(3):
            self.assertIs(live.undo(), False)
            self.assertEqual(state(live), state(Live(ONES, ODD)))

    def test_one_by_one(self):
        live = Live(ONES, ODD)
        steps = [
            lambda: live.hear("0" + FLAG), lambda: live.hear("11"), lambda: live.hear(""), lambda: live.several([]),
            lambda: live.several(["0", FLAG, "0"]), lambda: live.change(ZEROS), lambda: live.hear("0010"),
            lambda: live.hear("000010"), lambda: live.change(ZEROS), lambda: live.several(["00", "100"])]
        seen = []
        for step in steps:
            seen.append(state(live))
            step()
        self.assertEqual(live.found, (("good", "1"), ("good", "0")))
        for before in reversed(seen):
            self.assertIs(live.undo(), True)
            self.assertEqual(state(live), before)
        for _ in range(2):
            self.assertIs(live.undo(), False)
            self.assertEqual(state(live), seen[0])

    def test_goes_on_behind_it(self):
        live = opened()
        live.hear("11")
        live.hear("1" + FLAG)
        self.assertEqual(live.found, (("put", None),))
        live.undo()
        self.assertEqual((live.found, live.part), ((), "11"))
        self.assertEqual(live.hear("0" + FLAG), (("good", "1"),))
        self.assertEqual((live.found, live.heard, len(live)), ((("good", "1"),), FLAG + "110" + FLAG, 3))

    def test_an_error_is_nothing_to_take_back(self):
        live = opened()
        live.hear("110")
        before = state(live)
        for work in [lambda: live.hear("2"), lambda: live.several(["0", None]), lambda: live.several("0")]:
            self.assertRaises(FlipError, work)
        self.assertEqual(state(live), before)
        self.assertIs(live.undo(), True)
        self.assertEqual(state(live), state(opened()))

    def test_some_steps(self):
        chance = random.Random(103)
        known = [ONES, ZEROS, PLAIN, Rule("10", [("00", "1")])]
        for _ in range(100):
            live = Live(chance.choice(known), some_check(chance))
            seen = [state(live)]
            for _ in range(40):
                choice = chance.randrange(5)
                if choice == 0:
                    self.assertIs(live.undo(), len(seen) > 1)
                    seen = seen[:-1] or seen
                    self.assertEqual(state(live), seen[-1])
                    continue
                bits = ["".join(chance.choice("01") for _ in range(chance.randint(0, 9))) for _ in range(3)]
                if choice == 1:
                    live.change(chance.choice(known))
                elif choice == 2:
                    live.several(bits[:chance.randint(0, 3)])
                else:
                    live.hear(bits[0])
                seen.append(state(live))
                self.assertEqual(len(live), len(seen) - 1)


class Within(unittest.TestCase):
    def test_result(self):
        live = opened()
        before = state(live)
        for result in [None, 0, "x", [1], live]:
            self.assertIs(live.within(lambda given: result), result)
        self.assertIs(live.within(lambda given: given), live)
        self.assertEqual(live.within(lambda given: given.hear("110" + FLAG)), (("good", "1"),))
        self.assertEqual(state(live), before)

    def test_all_is_as_it_was(self):
        live = opened()
        live.hear("11")
        before = state(live)

        def work(given):
            given.hear("0" + FLAG)
            given.several(["1", ""])
            given.change(ZEROS)
            given.hear("0010")
            return state(given)

        seen = live.within(work)
        self.assertEqual(
            seen, (ZEROS, ODD, FLAG + "110" + FLAG + "1" + "0010", True, "", (("good", "1"),), 6))
        self.assertEqual(state(live), before)
        self.assertEqual(live.hear("0" + FLAG), (("good", "1"),))

    def test_what_was_taken_back_comes_again(self):
        live = opened()
        live.hear("11")
        before = state(live)
        self.assertEqual(live.within(lambda given: [given.undo() for _ in range(4)]), [True, True, False, False])
        self.assertEqual(state(live), before)

        def other(given):
            given.undo(), given.undo()
            given.hear("111")
            given.change(PLAIN)
            return len(given)

        self.assertEqual(live.within(other), 2)
        self.assertEqual(state(live), before)
        self.assertEqual((live.undo(), state(live)), (True, state(opened())))
        self.assertEqual((live.undo(), state(live)), (True, state(Live(ONES, ODD))))

    def test_errors_go_on(self):
        class Odd(Exception):
            pass

        live = opened()
        live.hear("11")
        before = state(live)
        for error in [Odd("x"), FlipError(), KeyboardInterrupt()]:
            def work(given):
                given.hear("0" + FLAG)
                given.change(ZEROS)
                given.undo(), given.undo(), given.undo()
                raise error

            with self.assertRaises(error.__class__) as caught:
                live.within(work)
            self.assertIs(caught.exception, error)
            self.assertEqual(state(live), before)
        for value, expected in [("2", InvalidWord), (None, InvalidWord)]:
            self.assertRaises(expected, live.within, lambda given: (given.hear("0"), given.hear(value)))
            self.assertEqual(state(live), before)
        self.assertRaises(Refused, live.within, lambda given: (given.undo(), given.several(["0", 1])))
        self.assertEqual(state(live), before)

    def test_within_each_other(self):
        live = opened()
        before = state(live)

        def inner(given):
            given.hear("0" + FLAG)
            return state(given)

        def outer(given):
            given.hear("11")
            middle = state(given)
            told = given.within(inner)
            self.assertEqual(state(given), middle)
            given.undo()
            self.assertEqual(state(given), before)
            return told

        self.assertEqual(live.within(outer)[5:], ((("good", "1"),), 3))
        self.assertEqual(state(live), before)

    def test_an_error_that_is_caught_by_the_outer_work(self):
        live = opened()

        def broken(given):
            given.hear("1")
            raise KeyError("x")

        def outer(given):
            given.hear("0")
            self.assertRaises(KeyError, given.within, broken)
            return given.part

        self.assertEqual((live.within(outer), live.part, len(live)), ("0", "", 1))

    def test_is_nothing_to_take_back(self):
        live = Live(ONES, ODD)
        live.within(lambda given: given.hear("0"))
        self.assertEqual((len(live), live.undo()), (0, False))


class Objects(unittest.TestCase):
    def test_not_iterable(self):
        for live in [Live(ONES, ODD), opened()]:
            self.assertRaises(TypeError, iter, live)
            self.assertRaises(TypeError, list, live)
            with self.assertRaises(TypeError):
                "1" in live

    def test_properties_are_only_read(self):
        live = opened()
        for name in ["rule", "check", "heard", "is_open", "part", "found"]:
            self.assertRaises(AttributeError, setattr, live, name, getattr(live, name))

    def test_what_is_seen_stays(self):
        live = opened()
        before = live.found
        told = live.hear("110" + FLAG)
        live.hear("0" + FLAG)
        self.assertEqual((before, told), ((), (("good", "1"),)))
        for value in [live.found, told, live.several(["1"]), live.several([]), live.hear("")]:
            self.assertIs(value.__class__, tuple)


if __name__ == "__main__":
    unittest.main()
