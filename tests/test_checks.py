"""[7] and [8]: checks."""

import itertools
import unittest

from tests.helpers import any_values, words
from unseenflips.checks import Check
from unseenflips.errors import FlipError, InvalidCheck, InvalidText

THREE = Check("1011", "110")


def polys(degree):
    """All polynomials of this degree."""
    if degree == 0:
        return ["1"]
    return ["1" + inner + "1" for inner in words(degree - 1, degree - 1)]


def checks(most):
    """All checks with this degree at most."""
    for degree in range(most + 1):
        for poly, start in itertools.product(polys(degree), words(degree, degree)):
            yield Check(poly, start)


def divided(check, bits):
    """The rest, from a long division of start and bits, written one behind the other as one polynomial."""
    many, poly = len(bits), int(check.poly, 2)
    left = int("0" + check.start + bits, 2)
    for place in range(many + check.degree - 1, check.degree - 1, -1):
        if left >> place & 1:
            left ^= poly << (place - check.degree)
    return format(left, "b").zfill(check.degree) if check.degree else ""


class Making(unittest.TestCase):
    def assert_refused(self, word, *told, **named):
        with self.assertRaises(FlipError) as caught:
            Check(*told, **named)
        self.assertIs(caught.exception.__class__, InvalidCheck)
        self.assertEqual(caught.exception.word, word, told)

    def test_defaults(self):
        self.assertEqual((Check().poly, Check().start, Check().degree), ("1", "", 0))
        self.assertEqual((Check("1011").poly, Check("1011").start, Check("1011").degree), ("1011", "000", 3))
        self.assertEqual(Check("1011", None).start, "000")
        self.assertEqual(Check("1", "").start, "")

    def test_attributes(self):
        self.assertEqual((THREE.poly, THREE.start, THREE.degree), ("1011", "110", 3))
        for check in checks(4):
            self.assertEqual(check.degree, len(check.poly) - 1)
            self.assertEqual(check.degree, len(check.start))

    def test_wrong_poly(self):
        for poly in any_values() + ["", "0", "00", "01", "10", "0110", "1100", "0011", "1 1", "1x1"]:
            self.assert_refused("poly", poly)
            self.assert_refused("poly", poly, "0")
            self.assert_refused("poly", poly, 7)
        self.assert_refused("poly", start="0", poly="0")

    def test_wrong_start(self):
        for start in any_values() + ["", "0", "1", "00", "0000", "0x0", "01 "]:
            if start is not None:
                self.assert_refused("start", "1011", start)
        for start in ["0", "1", " ", 0, False, [], ()]:
            self.assert_refused("start", "1", start)
            self.assert_refused("start", start=start)

    def test_none_is_no_poly(self):
        self.assert_refused("poly", None)
        self.assert_refused("poly", None, None)


class Rests(unittest.TestCase):
    def test_empty_word(self):
        for check in checks(3):
            self.assertEqual(check.rest(""), check.start)

    def test_degree_0(self):
        for word in words(5):
            self.assertEqual((Check().rest(word), Check().bits_for(word), Check().is_good(word)), ("", "", True))

    def test_degree_1_tells_whether_the_ones_are_odd(self):
        for word in words(6):
            self.assertEqual(Check("11").rest(word), str(word.count("1") % 2))
            self.assertEqual(Check("11", "1").rest(word), str((word.count("1") + 1) % 2))

    def test_step_by_step(self):
        # 110 and 0: 1100, 100, and 100 with the last two bits exchanged is 111, and so on.
        for bits, rest in [("1", "110"), ("10", "111"), ("100", "101"), ("1000", "001"), ("1001", "000")]:
            self.assertEqual(THREE.rest(bits), rest)

    def test_division(self):
        for check in checks(4):
            for bits in words(6):
                self.assertEqual(check.rest(bits), divided(check, bits), (str(check), bits))

    def test_the_poly_itself_leaves_nothing(self):
        for degree in range(1, 5):
            for poly in polys(degree):
                self.assertEqual(Check(poly).rest(poly), "0" * degree)

    def test_bits_for_is_the_only_good_end(self):
        for check in checks(3):
            for data in words(4):
                good = [end for end in words(check.degree, check.degree) if "1" not in check.rest(data + end)]
                self.assertEqual([check.bits_for(data)], good)
                self.assertTrue(check.is_good(data + good[0]))

    def test_good_messages(self):
        for check in checks(3):
            for message in words(5):
                expected = len(message) >= check.degree and divided(check, message).count("1") == 0
                self.assertIs(check.is_good(message), expected)

    def test_too_short_messages_are_not_good(self):
        self.assertIs(Check("11").is_good(""), False)
        self.assertIs(Check("1011").is_good("00"), False)
        self.assertIs(Check("1011").is_good("000"), True)
        self.assertIs(Check().is_good(""), True)


class Texts(unittest.TestCase):
    def test_text(self):
        for check, text in [(Check(), "1"), (Check("1", ""), "1"), (Check("11"), "11 start 0"),
                            (Check("1011"), "1011 start 000"), (THREE, "1011 start 110")]:
            self.assertEqual(str(check), text)

    def test_each_text_is_read_again(self):
        for check in checks(4):
            again = Check.read(str(check))
            self.assertEqual((again, again.poly, again.start), (check, check.poly, check.start))

    def assert_unread(self, error, told, text):
        with self.assertRaises(FlipError) as caught:
            Check.read(text)
        self.assertIs(caught.exception.__class__, error, text)
        self.assertEqual(caught.exception.word if error is InvalidCheck else caught.exception.at, told)

    def test_any_other_value(self):
        for value in any_values():
            self.assert_unread(InvalidText, 0, value)

    def test_any_other_text(self):
        for text in ["", "0", "11", "1011", "1 ", " 1", "1\n", "11 start", "11 start ", "start 0", " start 0", " start ",
                     "11  start 0", "11 start  0", "11 start 0 ", " 11 start 0", "11 start 0\n", "11 Start 0",
                     "11 start 0 start 0", "11 start start 0", "11 0", "1x start 0", "11 start x", "11start0",
                     "11 start\n0", "1 start ", "1 start \u0660"]:
            self.assert_unread(InvalidText, 0, text)

    def test_texts_of_no_check(self):
        for text, word in [("0 start 0", "poly"), ("01 start 0", "poly"), ("10 start 111", "poly"),
                           ("1 start 0", "start"), ("11 start 00", "start"), ("1011 start 00", "start")]:
            self.assert_unread(InvalidCheck, word, text)

    def test_the_form_is_told_before_the_check(self):
        for text in ["01 start ", "01 start x", "10 start 0 "]:
            self.assert_unread(InvalidText, 0, text)


class Equality(unittest.TestCase):
    def test_equal_if_the_texts_are(self):
        known = list(checks(2)) + [Check(), Check("11"), Check("101", "00"), Check.read("111 start 01"), THREE]
        for one, other in itertools.product(known, repeat=2):
            self.assertIs(one == other, str(one) == str(other))
            self.assertIs(one != other, str(one) != str(other))


if __name__ == "__main__":
    unittest.main()
