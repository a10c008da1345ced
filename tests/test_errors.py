"""[4]: the errors."""

import itertools
import unittest

from unseenflips.errors import (
    FlipError, InvalidCheck, InvalidCommand, InvalidHits, InvalidRule, InvalidText, InvalidWord, Refused)
from unseenflips.rules import Rule

WITH_WORD = [InvalidRule, InvalidCheck]
WITH_AT = [InvalidText, InvalidHits, Refused]
WITHOUT = [InvalidWord, InvalidCommand]
ALL = WITH_WORD + WITH_AT + WITHOUT


class Errors(unittest.TestCase):
    def test_base_class(self):
        self.assertEqual(FlipError.__bases__, (ValueError,))
        self.assertIsInstance(FlipError(), ValueError)

    def test_direct_subclasses(self):
        for error in ALL:
            self.assertEqual(error.__bases__, (FlipError,))

    def test_none_is_derived_from_another_one(self):
        for one, other in itertools.permutations(ALL, 2):
            self.assertFalse(issubclass(one, other))

    def test_arguments_are_kept_themselves(self):
        for kept in ["flag", 0, None, [1, [2]], ("a",), Rule("11"), object(), {}]:
            for error in WITH_WORD:
                self.assertIs(error(kept).word, kept)
                self.assertIs(error(word=kept).word, kept)
            for error in WITH_AT:
                self.assertIs(error(kept).at, kept)
                self.assertIs(error(at=kept).at, kept)

    def test_later_changes_are_seen_in_a_kept_argument(self):
        kept = [1]
        error = Refused(kept)
        kept.append(2)
        self.assertEqual(error.at, [1, 2])

    def test_without_arguments(self):
        for error in WITHOUT:
            self.assertIsInstance(error(), FlipError)

    def test_with_arguments_only(self):
        for error in WITH_WORD + WITH_AT:
            self.assertRaises(TypeError, error)

    def test_raised_and_caught_by_the_base(self):
        for error in WITH_WORD + WITH_AT:
            with self.assertRaises(FlipError) as caught:
                raise error("x")
            self.assertIs(caught.exception.__class__, error)

    def test_not_iterable(self):
        for error in [InvalidRule("flag"), InvalidText(0), InvalidWord(), FlipError()]:
            self.assertRaises(TypeError, iter, error)


if __name__ == "__main__":
    unittest.main()
