"""Checks: the bits behind the data that tell whether a message is good."""

from unseenflips.errors import InvalidCheck, InvalidText
from unseenflips.words import is_word


def exchanged(word, marks):
    """The word with those bits exchanged at which the marks have a 1."""
    return "".join(["0" if bit == mark else "1" for bit, mark in zip(word, marks)])


class Check:
    """A polynomial over two elements, and the rest with which a division by it begins."""

    def __init__(self, poly="1", start=None):
        if not is_word(poly, 1) or not poly.startswith("1") or not poly.endswith("1"):
            raise InvalidCheck("poly")
        degree = len(poly) - 1
        if start is None:
            start = "0" * degree
        if not is_word(start) or len(start) != degree:
            raise InvalidCheck("start")
        self.poly = poly
        self.start = start

    @classmethod
    def read(cls, text):
        """The check with a text."""
        if not isinstance(text, str):
            raise InvalidText(0)
        if text == "1":
            return cls()
        words = text.split(" start ")
        if len(words) != 2 or not is_word(words[0], 1) or not is_word(words[1], 1):
            raise InvalidText(0)
        return cls(words[0], words[1])

    @property
    def degree(self):
        """The degree of the polynomial, which is the number of check bits."""
        return len(self.poly) - 1

    def rest(self, bits):
        """What is left of these bits when they are divided by the polynomial."""
        marks = self.poly[1:]
        left = self.start
        for bit in bits:
            # With degree 0, the bit that goes out is the one that came in.
            whole = left + bit
            left = whole[1:]
            if whole[0] == "1":
                left = exchanged(left, marks)
        return left

    def bits_for(self, data):
        """The bits that make the data, followed by them, a good message."""
        # The last bits, as many as the degree, go into the rest as they are:
        # behind zeros, it is just what they must take away.
        return self.rest(data + "0" * self.degree)

    def is_good(self, message):
        """Whether a message has enough bits, and a rest without a 1."""
        return len(message) >= self.degree and "1" not in self.rest(message)

    def __eq__(self, other):
        return isinstance(other, Check) and self.poly == other.poly and self.start == other.start

    def __str__(self):
        if self.degree == 0:
            return "1"
        return f"{self.poly} start {self.start}"
