"""Clean rules: no message has a flag in its line ahead of the one at the end."""

from unseenflips.lines import body, filled, is_kept
from unseenflips.walks import first_refused, reached
from unseenflips.words import is_word, last_bits


def standing_behind(rule, line):
    """The last bits of a line, as many as can matter for a flag or a pattern that ends later."""
    return last_bits(line, max(rule.longest, len(rule.flag)) - 1)


def spoiled(rule):
    """The first message for which the first flag is not the one at the end, or None."""

    def step(standing, bit):
        line = filled(rule, standing + bit)
        return standing_behind(rule, line) if is_kept(rule, line) else None

    return first_refused(step)


def is_clean(rule):
    """Whether for each message of any length the first flag is the one at the end."""
    return spoiled(rule) is None


def flag_at(rule, message):
    """The number of the bit with which the first flag begins in what is sent for a message."""
    return (body(rule, message) + rule.flag).find(rule.flag)


def clean_paper(rule):
    """Standings from which anybody can see that the rule is clean, or None if it is not."""
    if not is_clean(rule):
        return None

    def onward(standing):
        return [standing_behind(rule, filled(rule, standing + bit)) for bit in "01"]

    return tuple(reached("", onward))


def clean_paper_holds(rule, value):
    """Whether any value at all is a right clean paper."""
    if not isinstance(value, tuple) or not all([is_word(standing) for standing in value]):
        return False
    known = set(value)
    if "" not in known:
        return False
    for standing in value:
        if not is_kept(rule, standing):
            return False
        for bit in "01":
            line = filled(rule, standing + bit)
            if rule.flag in line or standing_behind(rule, line) not in known:
                return False
    return True
