"""What is left of messages that are divided by the polynomial of a check, bit by bit."""

from unseenflips.checks import Check


class Lefts:
    """What can be left for a check, and what is left behind more bits.

    What is left is the rest as a word, with a stroke ahead of it for each bit that the message
    has less than the degree of the check.
    """

    def __init__(self, check):
        self._check = check
        self._known = {}
        self.begin = "-" * check.degree + check.start
        self.good = "0" * check.degree

    def behind(self, left, bits):
        """What is left behind more bits."""
        key = left, bits
        if key not in self._known:
            degree = self._check.degree
            missing = max(0, len(left) - degree - len(bits))
            rest = Check(self._check.poly, left[len(left) - degree:]).rest(bits)
            self._known[key] = "-" * missing + rest
        return self._known[key]
