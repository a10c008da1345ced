"""Rules: a flag, and the bits that are put in behind patterns."""

from unseenflips.errors import InvalidRule, InvalidText
from unseenflips.words import is_bit, is_word, other_bits, words_up_to


def is_stuff(value):
    """Whether any value at all is a pair of a pattern and a bit."""
    return isinstance(value, tuple) and len(value) == 2 and is_word(value[0], 1) and is_bit(value[1])


def one_ends_with_another(patterns):
    """Whether a pattern ends with another one, or occurs twice."""
    for at, pattern in enumerate(patterns):
        for other in patterns[:at] + patterns[at + 1:]:
            if pattern.endswith(other):
                return True
    return False


def are_stuffs(value):
    """Whether any value at all is a sequence of stuffs that go together."""
    if not isinstance(value, (list, tuple)) or not all([is_stuff(part) for part in value]):
        return False
    return not one_ends_with_another([pattern for pattern, bit in value])


def longest_pattern(stuffs):
    """The number of bits of the longest pattern, 0 without stuffs."""
    return max([len(pattern) for pattern, bit in stuffs], default=0)


def bit_behind(stuffs, line):
    """The bit that is put in behind a line, or None."""
    for pattern, bit in stuffs:
        if line.endswith(pattern):
            return bit
    return None


def never_ends(stuffs, line):
    """Whether bits are put in behind a line without end."""
    longest = longest_pattern(stuffs)
    seen = set()
    bit = bit_behind(stuffs, line)
    while bit is not None:
        # The next bit depends on the last bits only: if they come again, so does all that follows.
        line = (line + bit)[-longest:]
        if line in seen:
            return True
        seen.add(line)
        bit = bit_behind(stuffs, line)
    return False


def are_endless(stuffs):
    """Whether there is a message behind which bits are put in without end."""
    # Bits that are put in without end repeat themselves. The longest pattern that comes again and again
    # tells all that follows it, so it is enough to begin with each pattern. And the repeated bits, sent as
    # a message, bring the line there: whatever is put in on the way is the bit that comes next anyway.
    return any([never_ends(stuffs, pattern) for pattern, bit in stuffs])


def stuff_of(word):
    """The stuff with a text such as 11:0."""
    pattern, _, bit = word.partition(":")
    if not is_word(pattern, 1) or not is_bit(bit):
        raise InvalidText(0)
    return pattern, bit


class Rule:
    """A flag, and the stuffs: which bit is put in behind which pattern."""

    def __init__(self, flag, stuffs=()):
        if not is_word(flag, 2):
            raise InvalidRule("flag")
        if not are_stuffs(stuffs):
            raise InvalidRule("stuffs")
        if are_endless(stuffs):
            raise InvalidRule("endless")
        self.flag = flag
        self.stuffs = tuple(sorted(stuffs))

    @classmethod
    def read(cls, text):
        """The rule with a text."""
        if not isinstance(text, str):
            raise InvalidText(0)
        words = text.split(" ")
        if len(words) < 2 or words[0] != "flag" or not is_word(words[1], 1):
            raise InvalidText(0)
        if len(words) == 2:
            return cls(words[1])
        if len(words) == 3 or words[2] != "put":
            raise InvalidText(0)
        return cls(words[1], [stuff_of(word) for word in words[3:]])

    @property
    def longest(self):
        """The number of bits of the longest pattern, 0 without stuffs."""
        return longest_pattern(self.stuffs)

    def patterns(self):
        """The patterns of the stuffs."""
        return [pattern for pattern, bit in self.stuffs]

    def put(self, line):
        """The bit that is put in behind this line, or None."""
        return bit_behind(self.stuffs, line)

    def swapped(self):
        """The rule with 0 and 1 exchanged everywhere."""
        return Rule(other_bits(self.flag), [(other_bits(pattern), other_bits(bit)) for pattern, bit in self.stuffs])

    def __len__(self):
        return len(self.stuffs)

    def __eq__(self, other):
        return isinstance(other, Rule) and self.flag == other.flag and self.stuffs == other.stuffs

    def __str__(self):
        if len(self.stuffs) == 0:
            return f"flag {self.flag}"
        puts = " ".join([f"{pattern}:{bit}" for pattern, bit in self.stuffs])
        return f"flag {self.flag} put {puts}"


def rules_of_one(flag, size):
    """All rules with this flag and one stuff, with a pattern of 1 to so many bits."""
    found = []
    for pattern in words_up_to(size):
        for bit in "01":
            try:
                found.append(Rule(flag, [(pattern, bit)]))
            except InvalidRule:
                # Bits would be put in without end, so there is no such rule.
                pass
    return found
