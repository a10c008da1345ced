"""Rules compared: by the bodies of messages, and by lines that were seen."""

from unseenflips.lines import body, filled
from unseenflips.rules import rules_of_one
from unseenflips.walks import first_refused
from unseenflips.words import last_bits


def parting(p, q):
    """The first message for which two rules do not have the same body, or None."""
    most = max(p.longest, q.longest)

    def step(standing, bit):
        # As long as the rules did not part, both have the same line behind them.
        line = filled(p, standing + bit)
        return last_bits(line, most) if line == filled(q, standing + bit) else None

    return first_refused(step)


def alike(p, q):
    """Whether two rules have the same body for each message."""
    return parting(p, q) is None


def fits(rule, pairs):
    """Whether each of these messages has this line as its body."""
    for message, line in pairs:
        if body(rule, message) != line:
            return False
    return True


def could_be(flag, size, pairs):
    """The texts of all rules with this flag and one stuff that fit pairs of a message and a line."""
    return tuple(sorted([str(rule) for rule in rules_of_one(flag, size) if fits(rule, pairs)]))
