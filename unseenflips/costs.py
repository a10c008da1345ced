"""Costs: how many bits a rule puts in, at most, in all, and in the long run."""

from unseenflips.lines import filled
from unseenflips.values import is_less, is_value, lowest
from unseenflips.walks import reached
from unseenflips.words import is_word, last_bits


def step(rule, standing, bit):
    """The standing behind one more bit of a message, and the number of bits that are put in then."""
    line = filled(rule, standing + bit)
    return last_bits(line, rule.longest), len(line) - len(standing) - 1


def both_steps(rule, standing):
    """The steps with a 0 and with a 1."""
    return [step(rule, standing, bit) for bit in "01"]


def steps_of(rule):
    """For each standing behind a message, both steps from there."""

    def onward(standing):
        return [behind for behind, put in both_steps(rule, standing)]

    return {standing: both_steps(rule, standing) for standing in reached("", onward)}


def one_bit_later(steps, level):
    """What `level` tells for all messages of a size, for those that are one bit longer.

    For each standing it tells the dearest message that leads there, the least one of several,
    as the pair (number of bits put in, taken as a debt below 0; message): the least pair is the dearest.
    """
    found = {}
    for standing, (debt, message) in level.items():
        for bit, (behind, put) in zip("01", steps[standing]):
            pair = debt - put, message + bit
            if behind not in found or pair < found[behind]:
                found[behind] = pair
    return found


def dearest_pair(rule, size):
    """The least pair (debt, message) of all messages of a size."""
    steps = steps_of(rule)
    level = {"": (0, "")}
    for _ in range(size):
        level = one_bit_later(steps, level)
    return min(list(level.values()))


def most_put(rule, size):
    """The greatest number of bits that are put in for a message of this size."""
    return -dearest_pair(rule, size)[0]


def dearest(rule, size):
    """The least message of this size for which most bits are put in."""
    return dearest_pair(rule, size)[1]


def all_put(rule, size):
    """The number of bits that are put in for all messages of this size together."""
    steps = steps_of(rule)
    level = {"": (1, 0)}
    for _ in range(size):
        found = {}
        for standing, (messages, total) in level.items():
            for behind, put in steps[standing]:
                other_messages, other_total = found.get(behind, (0, 0))
                found[behind] = other_messages + messages, other_total + total + messages * put
        level = found
    return sum([total for messages, total in level.values()])


def least_slope(levels, standing):
    """The least cost of a bit, from an earlier level to the last one, where both lead to this standing."""
    size = len(levels) - 1
    least = None
    for at in range(size):
        if standing in levels[at]:
            slope = lowest(levels[at][standing][0] - levels[size][standing][0], size - at)
            if least is None or is_less(slope, least):
                least = slope
    return least


def rate(rule):
    """How many bits are put in for each bit of a message, at most and in the long run."""
    # In the long run the dearest messages go round and round, where a bit costs most on the average.
    # By Karp's theorem this average is the greatest of the least slopes, with as many levels as standings.
    steps = steps_of(rule)
    levels = [{"": (0, "")}]
    for _ in range(len(steps)):
        levels.append(one_bit_later(steps, levels[-1]))
    greatest = 0, 1
    for standing in levels[-1]:
        slope = least_slope(levels, standing)
        if is_less(greatest, slope):
            greatest = slope
    return greatest


def rate_paper(rule, value):
    """Standings with heights from which anybody can see that no bit costs more in the long run, or None."""
    over, under = value
    steps = steps_of(rule)
    heights = {"": 0}
    # A height, taken `under` times, is the greatest one that any way to its standing asks for. If that is
    # bounded, a way that comes to no standing twice asks for it, so nothing changes after so many rounds.
    # A standing comes behind one from which a step leads to it, so its height is known when it is its turn.
    for _ in range(len(steps) + 1):
        before = dict(heights)
        for standing, both in steps.items():
            for behind, put in both:
                asked = heights[standing] + put * under - over
                heights[behind] = max(asked, heights.get(behind, asked))
        if heights == before:
            return tuple([(standing, lowest(height, under)) for standing, height in heights.items()])
    return None


def is_entry(rule, value):
    """Whether any value at all is a pair of a standing and a value."""
    if not isinstance(value, tuple) or len(value) != 2:
        return False
    return is_word(value[0]) and len(value[0]) <= rule.longest and is_value(value[1])


def asked_for(height, put, value):
    """The pair that stands for height + put - value."""
    return height[0] * value[1] + (put * value[1] - value[0]) * height[1], height[1] * value[1]


def rate_paper_holds(rule, value, paper):
    """Whether any value at all is a right rate paper for a value."""
    if not isinstance(paper, tuple) or not all([is_entry(rule, entry) for entry in paper]):
        return False
    heights = {standing: height for standing, height in paper}
    if len(heights) < len(paper) or "" not in heights:
        return False
    for standing, height in paper:
        for behind, put in both_steps(rule, standing):
            if behind not in heights or is_less(heights[behind], asked_for(height, put, value)):
                return False
    return True
