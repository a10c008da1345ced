"""Unseen hits: wrong bits with which the receiver accepts other data.

Everything here is a walk over states: a state is a tuple (place, own, other) of a place in the net of the
sender and the receiver, and of what is left for the check of the message that is sent, and that is read.
"""

from unseenflips.lefts import Lefts
from unseenflips.lines import filled
from unseenflips.nets import Net
from unseenflips.walks import shortest_way


def begin_of(net, lefts):
    """The state ahead of the first bit."""
    return net.begin, lefts.begin, lefts.begin


def is_unseen(net, lefts, state):
    """Whether hits are unseen if the message ends in this state."""
    place, own, other = state
    return own == lefts.good and other == lefts.good and net.is_end(place)


def first_way(rule, check, kinds, hits, how):
    """A shortest message with unseen hits, or None if there is none.

    It is a list of pairs (bit, hits): a bit of the message, and the hits on what is sent with it.
    """
    net = Net(rule, kinds, hits, how)
    lefts = Lefts(check)

    def onward(state):
        place, own, other = state
        return [
            ((bit, marked), (behind, lefts.behind(own, bit), lefts.behind(other, read)))
            for behind, bit, read, marked, many in net.steps(place)]

    def is_last(state):
        return is_unseen(net, lefts, state)

    return shortest_way(begin_of(net, lefts), onward, is_last)


def first_unseen(rule, check, kinds, hits, how):
    """The least number of bits of data for which hits can be unseen in this way, or None."""
    way = first_way(rule, check, kinds, hits, how)
    return None if way is None else len(way) - check.degree


def example(rule, check, kinds, hits, how):
    """Some pair (data, hits) of the least size that is unseen in this way, or None."""
    way = first_way(rule, check, kinds, hits, how)
    if way is None:
        return None
    message = ""
    line = ""
    found = []
    for bit, marked in way:
        found += [(len(line) + at, kind) for at, kind in marked]
        line = filled(rule, line + bit)
        message += bit
    return message[:len(message) - check.degree], tuple(found)


def one_bit_further(net, lefts, level):
    """In how many ways each state is reached, told from the ways to those that are one bit ahead of it."""
    found = {}
    for (place, own, other), ways in level.items():
        for behind, bit, read, marked, many in net.steps(place):
            state = behind, lefts.behind(own, bit), lefts.behind(other, read)
            found[state] = found.get(state, 0) + ways * many
    return found


def count_unseen(rule, check, kinds, size, hits, how):
    """The number of all pairs (data, hits), of this size and so many hits, that are unseen in this way."""
    net = Net(rule, kinds, hits, how)
    lefts = Lefts(check)
    level = {begin_of(net, lefts): 1}
    for _ in range(size + check.degree):
        level = one_bit_further(net, lefts, level)
    # Nobody can tell from a state which hits led there, but how many they were.
    return sum([
        ways for state, ways in level.items() if net.used(state[0]) == hits and is_unseen(net, lefts, state)])


def unseen_sizes(rule, check, kinds, hits, how, most):
    """All sizes of data up to `most` for which hits can be unseen in this way."""
    net = Net(rule, kinds, hits, how)
    lefts = Lefts(check)
    level = {begin_of(net, lefts): 1}
    found = []
    for size in range(-check.degree, most + 1):
        # A message that is shorter than the degree of its check is not good, so this is so for no size below 0.
        if any([is_unseen(net, lefts, state) for state in level]):
            found.append(size)
        if size < most:
            level = one_bit_further(net, lefts, level)
    return tuple(found)
