"""[5] and [6]: rules."""

import itertools
import random
import unittest

from tests.helpers import any_values, rules, words
from unseenflips.errors import FlipError, InvalidRule, InvalidText
from unseenflips.rules import Rule

ONES = Rule("01110", [("11", "0")])


class Refusals(unittest.TestCase):
    def assert_refused(self, word, *told):
        with self.assertRaises(FlipError) as caught:
            Rule(*told)
        self.assertIs(caught.exception.__class__, InvalidRule)
        self.assertEqual(caught.exception.word, word, told)

    def test_flags(self):
        for flag in any_values() + ["", "0", "1", "012", "11 "]:
            self.assert_refused("flag", flag)

    def test_least_flags(self):
        for flag in words(4, 2):
            self.assertEqual(Rule(flag).flag, flag)

    def test_stuffs_that_are_no_sequence(self):
        for stuffs in any_values() + ["", "11:0", "01"]:
            if stuffs not in ([], ()):
                self.assert_refused("stuffs", "01110", stuffs)

    def test_stuffs_that_are_no_pairs(self):
        for part in any_values() + [
                (), ("11",), ("11", "0", "1"), ["11", "0"], "110", "10", ("11", "0", None), [("11", "0")]]:
            if part != ("1", "1"):
                self.assert_refused("stuffs", "01110", [part])
                self.assert_refused("stuffs", "01110", (("11", "0"), part))

    def test_wrong_patterns_and_bits(self):
        for value in any_values() + [""]:
            self.assert_refused("stuffs", "01110", [(value, "0")])
            self.assert_refused("stuffs", "01110", [("11", value)])
        for bit in ["00", "01", "110"]:
            self.assert_refused("stuffs", "01110", [("11", bit)])

    def test_pattern_twice(self):
        self.assert_refused("stuffs", "01110", [("11", "0"), ("11", "0")])
        self.assert_refused("stuffs", "01110", [("11", "0"), ("00", "1"), ("11", "1")])

    def test_pattern_that_ends_with_another_one(self):
        self.assert_refused("stuffs", "00", [("1", "0"), ("01", "1")])
        self.assert_refused("stuffs", "00", [("01", "1"), ("1", "0")])
        self.assert_refused("stuffs", "01110", [("0011", "0"), ("000", "1"), ("11", "0")])

    def test_pattern_that_begins_with_or_holds_another_one(self):
        self.assertEqual(Rule("00", [("0", "1"), ("011", "0")]).stuffs, (("0", "1"), ("011", "0")))
        self.assertEqual(Rule("01110", [("0110", "1"), ("11", "0")]).stuffs, (("0110", "1"), ("11", "0")))
        self.assertEqual(Rule("01110", [("110", "1"), ("11", "0")]).stuffs, (("11", "0"), ("110", "1")))

    def test_endless(self):
        self.assert_refused("endless", "00", [("11", "1")])
        self.assert_refused("endless", "00", [("0", "0")])
        self.assert_refused("endless", "00", [("0", "1"), ("1", "0")])
        self.assert_refused("endless", "00", [("01", "0"), ("10", "1")])
        self.assert_refused("endless", "00", [("001", "0"), ("010", "0"), ("100", "1")])

    def test_endless_only_behind_two_patterns(self):
        # Alone, each of them ends.
        for stuff in [("01", "1"), ("11", "0"), ("110", "1"), ("101", "1")]:
            Rule("00", [stuff])
        self.assert_refused("endless", "00", [("11", "0"), ("110", "1"), ("101", "1")])

    def test_order(self):
        self.assert_refused("flag", "1", [("11", "1"), ("11", "1")])
        self.assert_refused("flag", "1", None)
        self.assert_refused("flag", None, [("11", "1")])
        self.assert_refused("stuffs", "00", [("1", "1"), ("11", "1")])
        self.assert_refused("stuffs", "00", [("11", "1"), ("0", None)])

    def test_endless_for_all_small_rules(self):
        for many, longest in [(1, 4), (2, 3), (3, 2)]:
            for patterns in itertools.combinations(list(words(longest, 1)), many):
                for bits in itertools.product("01", repeat=many):
                    self.compare(list(zip(patterns, bits)))

    def test_endless_for_some_larger_rules(self):
        chance = random.Random(5)
        patterns = list(words(4, 1))
        for _ in range(3000):
            chosen = chance.sample(patterns, chance.choice([3, 4, 5]))
            self.compare([(pattern, chance.choice("01")) for pattern in chosen])

    def compare(self, stuffs):
        if ends_with_another(stuffs):
            self.assert_refused("stuffs", "0110", stuffs)
        elif has_endless_message(stuffs):
            self.assert_refused("endless", "0110", stuffs)
        else:
            self.assertEqual(Rule("0110", stuffs).stuffs, tuple(sorted(stuffs)))


def ends_with_another(stuffs):
    return any(one[0].endswith(other[0]) for one, other in itertools.permutations(stuffs, 2))


def has_endless_message(stuffs):
    """Goes to all standings behind messages, step by step, beginning with the empty line."""
    table, longest = dict(stuffs), max(len(pattern) for pattern, bit in stuffs)

    def due(line):
        return next((table[line[at:]] for at in range(len(line)) if line[at:] in table), None)

    found, ahead = {""}, [""]
    while ahead:
        standing = ahead.pop()
        for bit in "01":
            line, steps = standing + bit, 0
            while due(line) is not None:
                line, steps = line + due(line), steps + 1
                if steps > 2 ** (longest + 1):
                    return True
            if line[-longest:] not in found:
                found.add(line[-longest:])
                ahead.append(line[-longest:])
    return False


class Parts(unittest.TestCase):
    def test_attributes(self):
        rule = Rule("01110", [("11", "0"), ("001", "1")])
        self.assertEqual((rule.flag, rule.stuffs), ("01110", (("001", "1"), ("11", "0"))))
        self.assertIs(rule.stuffs.__class__, tuple)

    def test_stuffs_are_ascending_and_tuples(self):
        for stuffs in itertools.permutations([("10", "0"), ("000", "1"), ("11", "0"), ("001", "1")]):
            for given in [list(stuffs), stuffs]:
                self.assertEqual(
                    Rule("01110", given).stuffs, (("000", "1"), ("001", "1"), ("10", "0"), ("11", "0")))

    def test_without_stuffs(self):
        for rule in [Rule("01110"), Rule("01110", []), Rule("01110", ()), Rule(flag="01110", stuffs=[])]:
            self.assertEqual((rule.stuffs, len(rule), rule.longest, str(rule)), ((), 0, 0, "flag 01110"))
            self.assertIsNone(rule.put(""))
            self.assertIsNone(rule.put("0111"))

    def test_number_of_stuffs(self):
        self.assertEqual(len(ONES), 1)
        self.assertEqual(len(Rule("01110", [("11", "0"), ("001", "1")])), 2)
        self.assertEqual(len(Rule("01110", [("000", "1"), ("001", "1"), ("10", "0"), ("11", "0")])), 4)

    def test_longest(self):
        self.assertEqual(ONES.longest, 2)
        self.assertEqual(Rule("01110", [("11", "0"), ("001", "1")]).longest, 3)
        self.assertEqual(Rule("00", [("1", "0")]).longest, 1)

    def test_put(self):
        rule = Rule("01110", [("11", "0"), ("001", "1")])
        for line, bit in [("", None), ("1", None), ("11", "0"), ("110", None), ("0011", "0"), ("001", "1"),
                          ("01", None), ("1001", "1"), ("111", "0"), ("0010", None)]:
            self.assertEqual(rule.put(line), bit, line)

    def test_put_is_the_bit_of_the_pattern_at_the_end(self):
        for rule in rules("01110", 2, 3):
            for line in words(5):
                expected = [bit for pattern, bit in rule.stuffs if line[-len(pattern):] == pattern]
                self.assertEqual(rule.put(line), (expected + [None])[0])

    def test_swapped(self):
        self.assertEqual(str(Rule("01110", [("11", "0"), ("001", "1")]).swapped()), "flag 10001 put 00:1 110:0")
        self.assertEqual(str(Rule("01").swapped()), "flag 10")
        for rule in rules("0010", 2, 3):
            self.assertEqual(rule.swapped().swapped(), rule)
            for line in words(3):
                mirrored = line.replace("0", "x").replace("1", "0").replace("x", "1")
                self.assertEqual(
                    {"0": "1", "1": "0", None: None}[rule.put(line)], rule.swapped().put(mirrored))

    def test_swapped_leaves_the_rule(self):
        self.assertIsNot(ONES.swapped(), ONES)
        self.assertEqual(str(ONES), "flag 01110 put 11:0")


class Texts(unittest.TestCase):
    def test_text(self):
        self.assertEqual(str(Rule("01110", [("11", "0"), ("001", "1")])), "flag 01110 put 001:1 11:0")
        self.assertEqual(str(Rule("01110")), "flag 01110")

    def test_read(self):
        self.assertEqual(Rule.read("flag 01110").stuffs, ())
        self.assertEqual(Rule.read("flag 01110 put 11:0").stuffs, (("11", "0"),))
        for text in ["flag 01110 put 001:1 11:0", "flag 01110 put 11:0 001:1"]:
            rule = Rule.read(text)
            self.assertEqual((rule.flag, rule.stuffs), ("01110", (("001", "1"), ("11", "0"))))
            self.assertEqual(str(rule), "flag 01110 put 001:1 11:0")

    def test_each_text_is_read_again(self):
        for stuffs, longest in [(0, 1), (1, 4), (2, 3)]:
            for rule in rules("0110", stuffs, longest):
                self.assertEqual(Rule.read(str(rule)), rule)
                self.assertEqual(Rule.read(str(rule)).stuffs, rule.stuffs)

    def assert_unread(self, error, told, text):
        with self.assertRaises(FlipError) as caught:
            Rule.read(text)
        self.assertIs(caught.exception.__class__, error, text)
        self.assertEqual(caught.exception.word if error is InvalidRule else caught.exception.at, told)

    def test_any_other_value(self):
        for value in any_values():
            self.assert_unread(InvalidText, 0, value)

    def test_any_other_text(self):
        for text in [
                "", "flag", "flag ", "flag  01110", " flag 01110", "flag 01110 ", "flag 01110\n", "flag\n01110",
                "Flag 01110", "flags 01110", "01110", "flag 0111x", "flag 01110 11:0", "flag 01110 put",
                "flag 01110 put ", "flag 01110 put  11:0", "flag 01110  put 11:0", "flag 01110 put 11:0 ",
                "flag 01110 put 11:0  00:1", "flag 01110 put 11:0\n", "flag 01110 put 11", "flag 01110 put 11:",
                "flag 01110 put :0", "flag 01110 put :", "flag 01110 put 11:00", "flag 01110 put 11:0:1",
                "flag 01110 put 11::0", "flag 01110 put 11:2", "flag 01110 put 12:0", "flag 01110 put 11:0,00:1",
                "flag 01110 PUT 11:0", "flag 01110 put put 11:0", "flag 01110 put 11:0 put 00:1", "put 11:0",
                "flag put 11:0", "flag 01110 put 11 :0", "flag 01110 put 11: 0", "flag 01110 01110",
                "flag 01110 put 11:0\t00:1", "flag 01110 put 11:\u0660", "flag \u0660\u0661"]:
            self.assert_unread(InvalidText, 0, text)

    def test_texts_of_no_rule(self):
        for text, word in [
                ("flag 0", "flag"), ("flag 1 put 1:0", "flag"), ("flag 1 put 11:1", "flag"),
                ("flag 1 put 1:0 1:0", "flag"), ("flag 01 put 1:0 01:1", "stuffs"), ("flag 01 put 1:0 1:0", "stuffs"),
                ("flag 01 put 1:1 11:1", "stuffs"), ("flag 01 put 11:1", "endless"),
                ("flag 00 put 10:1 01:0", "endless")]:
            self.assert_unread(InvalidRule, word, text)

    def test_the_form_is_told_before_the_rule(self):
        for text in ["flag 0 put", "flag 0 put 1:1 1", "flag 01 put 1:1 1:1 x", "flag 01 put 1:0 01:1 "]:
            self.assert_unread(InvalidText, 0, text)


class Equality(unittest.TestCase):
    def test_equal_if_the_texts_are(self):
        known = [Rule("01110"), ONES, Rule("0111", [("11", "0")]), Rule("01110", [("11", "0"), ("001", "1")]),
                 Rule("01110", (("001", "1"), ("11", "0"))), Rule("01110", [("110", "0")]), Rule("01110", [("00", "1")]),
                 Rule.read("flag 01110 put 11:0"), ONES.swapped(), ONES.swapped().swapped()]
        for one, other in itertools.product(known, repeat=2):
            self.assertIs(one == other, str(one) == str(other))
            self.assertIs(one != other, str(one) != str(other))


if __name__ == "__main__":
    unittest.main()
