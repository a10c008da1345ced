"""[1] and [2]: what holds for everything."""

import unittest

from tests.helpers import any_values, nested, words
from unseenflips.checks import Check
from unseenflips.errors import InvalidCheck, InvalidRule, InvalidText
from unseenflips.lines import body, frames, receive, send, taken_out
from unseenflips.rules import Rule

ONES, ODD = Rule("01110", [("11", "0")]), Check("11")


def told(work, *given):
    """What a call returns, or which error it raises."""
    try:
        return str(work(*given))
    except (InvalidRule, InvalidCheck) as error:
        return error.__class__, error.word
    except InvalidText as error:
        return error.__class__, error.at


class AnyValues(unittest.TestCase):
    def test_only_the_errors_that_are_described(self):
        values = any_values() + ["", "1", "01", "11", "flag 11", "11 start 0", [("11", "0")]]
        for work in [Rule, Check]:
            for one in values:
                told(work, one)
                for other in values:
                    told(work, one, other)
        for work in [Rule.read, Check.read]:
            for one in values:
                told(work, one)

    def test_eight_deep(self):
        for depth in range(1, 9):
            deep = nested("01", depth)
            self.assertEqual(told(Rule, deep), (InvalidRule, "flag"))
            self.assertEqual(told(Rule, "01", deep), (InvalidRule, "stuffs"))
            self.assertEqual(told(Rule, "01", [(deep, "0")]), (InvalidRule, "stuffs"))
            self.assertEqual(told(Check, deep), (InvalidCheck, "poly"))
            self.assertEqual(told(Check, "11", deep), (InvalidCheck, "start"))
            self.assertEqual(told(Rule.read, deep), (InvalidText, 0))
            self.assertEqual(told(Check.read, deep), (InvalidText, 0))

    def test_no_integer_or_bool_is_a_bit(self):
        for bit in [0, 1, True, False]:
            self.assertEqual(told(Rule, "01", [("11", bit)]), (InvalidRule, "stuffs"))
            self.assertEqual(told(Rule, "01", [(bit, "0")]), (InvalidRule, "stuffs"))
            self.assertEqual(told(Check, bit), (InvalidCheck, "poly"))
            self.assertEqual(told(Check, "11", bit), (InvalidCheck, "start"))

    def test_what_tells_whether_is_a_bool(self):
        for message in words(3):
            self.assertIsInstance(ODD.is_good(message), bool)
        for other in any_values():
            self.assertIsInstance(ONES == other, bool)
            self.assertIsInstance(ODD == other, bool)


class Changes(unittest.TestCase):
    def test_arguments_stay(self):
        stuffs = [("11", "0"), ("001", "1")]
        Rule("01110", stuffs)
        self.assertEqual(stuffs, [("11", "0"), ("001", "1")])

    def test_refused_arguments_stay(self):
        stuffs = [("11", "1"), ("001", "1")]
        self.assertRaises(InvalidRule, Rule, "01110", stuffs)
        self.assertEqual(stuffs, [("11", "1"), ("001", "1")])

    def test_later_changes_have_no_effect(self):
        stuffs = [("11", "0")]
        rule = Rule("01110", stuffs)
        stuffs.append(("000", "1"))
        stuffs[0] = ("10", "1")
        self.assertEqual((rule.stuffs, len(rule), str(rule)), ((("11", "0"),), 1, "flag 01110 put 11:0"))
        self.assertEqual(body(rule, "11000"), "110000")

    def test_a_list_and_a_tuple_are_the_same(self):
        self.assertEqual(Rule("01110", [("11", "0")]), Rule("01110", (("11", "0"),)))

    def test_a_pair_is_a_tuple(self):
        self.assertRaises(InvalidRule, Rule, "01110", [["11", "0"]])

    def test_equal_results_whatever_was_asked_in_between(self):
        rules = [Rule("01110", [("11", "0")]), Rule("01110", [("11", "0"), ("001", "1")]), Rule("11")]
        checks = [Check(), Check("11"), Check("1011", "110")]

        def asked():
            return [
                (body(rule, word), taken_out(rule, word), send(rule, check, word), receive(rule, check, word),
                 frames(rule, check, word), rule.put(word), rule.longest, str(rule), str(rule.swapped()), len(rule),
                 check.rest(word), check.bits_for(word), check.is_good(word), str(check), check.degree)
                for rule in rules for check in checks for word in words(5)]

        first = asked()
        for value in any_values():
            for work in [Rule, Check, Rule.read, Check.read]:
                told(work, value)
        self.assertEqual(asked(), first)
        self.assertEqual([rule.stuffs for rule in rules], [(("11", "0"),), (("001", "1"), ("11", "0")), ()])

    def test_sequences_are_tuples(self):
        self.assertIs(Rule("01110", [("11", "0")]).stuffs.__class__, tuple)
        self.assertIs(Rule("01110", [("11", "0")]).stuffs[0].__class__, tuple)
        self.assertIs(Rule("01110", []).stuffs.__class__, tuple)
        pairs = frames(ONES, Check(), "101110001110")
        self.assertEqual([part.__class__ for part in (pairs,) + pairs], [tuple] * 3)
        self.assertIs(receive(ONES, Check(), "").__class__, tuple)


class Objects(unittest.TestCase):
    def test_equal_to_nothing_of_another_class(self):
        class Everything:
            def __eq__(self, other):
                return True

        for value in [ONES, Rule("11"), ODD, Check()]:
            for other in any_values() + [str(value), (value,), object(), Everything()]:
                if other.__class__ is not value.__class__:
                    self.assertIs(value == other, False)
                    self.assertIs(value != other, True)

    def test_alike_in_both_classes(self):
        self.assertFalse(Rule("11") == Check("11"))
        self.assertFalse(Check("11") == Rule("11"))

    def test_not_iterable(self):
        for value in [ONES, Rule("11"), ODD, Check()]:
            self.assertRaises(TypeError, iter, value)
            self.assertRaises(TypeError, list, value)
            with self.assertRaises(TypeError):
                "11" in value


class Names(unittest.TestCase):
    def test_arguments_by_name(self):
        self.assertEqual(Rule(stuffs=[("11", "0")], flag="01110"), ONES)
        self.assertEqual(Rule(flag="01110").stuffs, ())
        self.assertEqual(Rule.read(text="flag 01110 put 11:0"), ONES)
        self.assertEqual(ONES.put(line="11"), "0")
        self.assertEqual(Check(start="110", poly="1011"), Check("1011", "110"))
        self.assertEqual(Check(poly="11"), ODD)
        self.assertEqual(Check.read(text="11 start 0"), ODD)
        self.assertEqual((ODD.rest(bits="1"), ODD.bits_for(data="1"), ODD.is_good(message="11")), ("1", "1", True))
        self.assertEqual((body(message="11", rule=ONES), taken_out(line="110", rule=ONES)), ("110", "11"))
        self.assertEqual(send(data="1", check=ODD, rule=ONES), "11001110")
        self.assertEqual(receive(raw="11001110", check=ODD, rule=ONES), ("good", "1"))
        self.assertEqual(frames(raw="11001110", check=ODD, rule=ONES), (("good", "1"),))


if __name__ == "__main__":
    unittest.main()
