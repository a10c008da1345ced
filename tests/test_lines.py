"""[9] and [10]: lines."""

import unittest

from tests.helpers import plain_body, rules, words
from unseenflips.checks import Check
from unseenflips.lines import body, frames, receive, send, taken_out
from unseenflips.rules import Rule

ONES, ODD = Rule("01110", [("11", "0")]), Check("11")
ZEROS = Rule("0010", [("001", "1")])
CHAIN = Rule("01110", [("11", "0"), ("110", "1"), ("101", "0")])


def small_rules(flag):
    """Rules of all sorts with this flag."""
    yield Rule(flag)
    for stuffs, longest in [(1, 3), (2, 2)]:
        for rule in rules(flag, stuffs, longest):
            yield rule


class Bodies(unittest.TestCase):
    def test_without_stuffs(self):
        for message in words(5):
            self.assertEqual(body(Rule("11"), message), message)
            self.assertEqual(taken_out(Rule("11"), message), message)

    def test_empty_word(self):
        for rule in small_rules("0110"):
            self.assertEqual((body(rule, ""), taken_out(rule, "")), ("", ""))

    def test_bits_are_put_in(self):
        for message, line in [("1", "1"), ("11", "110"), ("111", "1101"), ("1111", "110110"), ("0110", "01100")]:
            self.assertEqual(body(ONES, message), line)
        self.assertEqual(body(ZEROS, "00100"), "001100")

    def test_put_in_bit_that_completes_a_pattern_again(self):
        self.assertEqual(body(CHAIN, "11"), "11010")
        self.assertEqual(body(CHAIN, "111"), "110101" + "0")
        self.assertEqual(taken_out(CHAIN, "11010"), "11")
        for broken in ["11", "110", "1101", "11011", "1100", "111"]:
            self.assertIsNone(taken_out(CHAIN, broken), broken)

    def test_put_in_bit_that_is_part_of_a_pattern_later(self):
        rule = Rule("00", [("0", "1"), ("111", "0")])
        self.assertEqual(body(rule, "011"), "011101")
        self.assertEqual(taken_out(rule, "011101"), "011")

    def test_opening_flag_is_no_part_of_the_line(self):
        # The flag ends with ones, but they do not count.
        self.assertEqual(body(Rule("011", [("11", "0")]), "1"), "1")

    def test_body_in_the_words_of_the_promise(self):
        for rule in small_rules("0110"):
            for message in words(5):
                self.assertEqual(body(rule, message), plain_body(rule, message))

    def test_taken_out_is_the_message_with_this_body(self):
        for rule in small_rules("0110"):
            sent = {plain_body(rule, message): message for message in words(6)}
            for line in words(6):
                self.assertEqual(taken_out(rule, line), sent.get(line), (str(rule), line))

    def test_wrong_missing_and_last_bits(self):
        for line, message in [("11", None), ("111", None), ("1101", "111"), ("110", "11"), ("01100", "0110"),
                              ("011", None), ("0111", None), ("10110", "1011"), ("101101", "10111"), ("1011011", None)]:
            self.assertEqual(taken_out(ONES, line), message, line)


class Sent(unittest.TestCase):
    def test_send(self):
        self.assertEqual(send(ONES, Check(), "1111"), "11011001110")
        self.assertEqual(send(ONES, ODD, "1"), "110" + "01110")
        self.assertEqual(send(ONES, ODD, "11"), "1100" + "01110")
        self.assertEqual(send(ONES, Check(), ""), "01110")
        self.assertEqual(send(ONES, Check("111", "11"), ""), body(ONES, Check("111", "11").bits_for("")) + "01110")
        self.assertEqual(send(Rule("11"), ODD, "101"), "101011")

    def test_send_is_body_and_flag(self):
        for rule in small_rules("0110"):
            for check in [Check(), ODD, Check("111", "01")]:
                for data in words(3):
                    self.assertEqual(
                        send(rule, check, data), plain_body(rule, data + check.bits_for(data)) + "0110")

    def test_what_is_sent_by_clean_rules_is_received(self):
        for rule in [ONES, ZEROS]:
            for check in [Check(), ODD, Check("1011", "110")]:
                for data in words(6):
                    self.assertEqual(receive(rule, check, send(rule, check, data)), ("good", data))


class Received(unittest.TestCase):
    def test_open(self):
        for raw in ["", "0", "0111", "1110", "00110110", "111"]:
            self.assertEqual(receive(ONES, Check(), raw), ("open", None))

    def test_each_reason(self):
        for check, raw, pair in [
                (Check(), "01110", ("good", "")), (ODD, "01110", ("check", None)), (Check(), "101110", ("good", "1")),
                (Check(), "1101110", ("put", None)), (ODD, "11001110", ("good", "1")), (ODD, "001110", ("good", "")),
                (ODD, "101110", ("check", None)), (Check("111"), "001110", ("check", None)),
                (Check("111"), "0001110", ("good", ""))]:
            self.assertEqual(receive(ONES, check, raw), pair, (str(check), raw))

    def test_put_is_told_before_check(self):
        self.assertEqual(receive(ONES, ODD, "11101110"), ("put", None))
        self.assertEqual(receive(ONES, Check("1011"), "1101110"), ("put", None))

    def test_cut_where_the_first_flag_begins(self):
        self.assertEqual(receive(ONES, Check(), "0011100111001110"), ("good", "0"))
        self.assertEqual(receive(ONES, Check(), "011101110"), ("good", ""))
        self.assertEqual(receive(Rule("11"), Check(), "0111"), ("good", "0"))
        self.assertEqual(receive(Rule("00"), Check(), "1000"), ("good", "1"))
        self.assertEqual(receive(Rule("0101"), Check(), "00101011"), ("good", "0"))

    def test_a_spoiled_rule_may_cut_its_own_body(self):
        self.assertEqual(receive(Rule("11"), Check(), send(Rule("11"), Check(), "0111")), ("good", "0"))

    def test_data_are_the_message_without_its_check_bits(self):
        three = Check("1011", "110")
        self.assertEqual(receive(ONES, three, "1001" + "01110"), ("good", "1"))
        self.assertEqual(receive(ONES, three, "1000" + "01110"), ("check", None))
        self.assertEqual(receive(ONES, three, "10" + "01110"), ("check", None))

    def test_all_short_lines(self):
        for rule in [ONES, ZEROS, Rule("11"), Rule("00", [("01", "1")]), CHAIN]:
            for check in [Check(), ODD, Check("101", "10")]:
                for raw in words(9):
                    self.assertEqual(receive(rule, check, raw), plain_receive(rule, check, raw))

    def test_frames(self):
        self.assertEqual(frames(ONES, Check(), "1011100111001"), (("good", "1"),))
        self.assertEqual(frames(ONES, Check(), "1" + "01110" + "1101" + "01110" + "11" + "01110" + "0" + "01110"),
                         (("good", "1"), ("good", "111"), ("put", None), ("good", "0")))
        self.assertEqual(frames(ONES, ODD, "1" + "01110" + "00" + "01110"), (("check", None), ("good", "0")))

    def test_empty_and_open_parts(self):
        for raw in ["", "0", "0111", "01110", "0111001110", "011100111001110", "0111011", "011100111"]:
            self.assertEqual(frames(ONES, Check(), raw), ())
            self.assertIs(frames(ONES, Check(), raw).__class__, tuple)

    def test_flags_do_not_share_bits(self):
        self.assertEqual(frames(ONES, Check(), "1" + "01110" + "1110" + "01110"), (("good", "1"), ("put", None)))
        self.assertEqual(frames(Rule("11"), Check(), "0111"), (("good", "0"),))
        self.assertEqual(frames(Rule("11"), Check(), "0111011"), (("good", "0"), ("good", "10")))

    def test_frames_in_the_words_of_the_promise(self):
        for rule in [ONES, ZEROS, Rule("11"), Rule("00", [("01", "1")])]:
            for raw in words(10):
                expected, left = [], raw
                while rule.flag in left:
                    end = left.index(rule.flag)
                    if end > 0:
                        expected.append(plain_receive(rule, ODD, left))
                    left = left[end + len(rule.flag):]
                self.assertEqual(frames(rule, ODD, raw), tuple(expected))


def plain_receive(rule, check, raw):
    """What receive tells, from what the sender could have sent."""
    ends = [at for at in range(len(raw)) if raw[at:at + len(rule.flag)] == rule.flag]
    if not ends:
        return "open", None
    part = raw[:ends[0]]
    message = next((sent for sent in words(len(part)) if plain_body(rule, sent) == part), None)
    if message is None:
        return "put", None
    split = len(message) - check.degree
    if split < 0 or message[split:] != check.bits_for(message[:split]):
        return "check", None
    return "good", message[:split]


if __name__ == "__main__":
    unittest.main()
