"""Hits: wrong bits on a line, and how far they shift what stands behind them."""

from unseenflips.errors import InvalidHits
from unseenflips.lines import can_end
from unseenflips.values import is_int
from unseenflips.walks import reached
from unseenflips.words import last_bits, other_bits, tail

KINDS = ("double", "lose", "turn")


def is_hit(value, least, size):
    """Whether any value at all is a hit on a line of so many bits, on this bit at the least."""
    if not isinstance(value, tuple) or len(value) != 2 or not is_int(value[0]):
        return False
    return least <= value[0] < size and value[1] in KINDS


def arriving(bit, kind):
    """What arrives of a bit with a hit of this kind, or with none."""
    if kind == "double":
        return bit + bit
    if kind == "lose":
        return ""
    if kind == "turn":
        return other_bits(bit)
    return bit


def hit(line, hits):
    """The line that arrives if these bits are hit."""
    if not isinstance(hits, (list, tuple)):
        raise InvalidHits(0)
    least = 0
    for index, value in enumerate(hits):
        if not is_hit(value, least, len(line)):
            raise InvalidHits(index)
        least = value[0] + 1
    kinds = {at: kind for at, kind in hits}
    return "".join([arriving(bit, kinds.get(at)) for at, bit in enumerate(line)])


def hear(rule, heard, bits):
    """How a receiver goes on with bits that arrive: what was heard last, and the bits that it read.

    None if there is a flag, or a bit that is not the one that was put in.
    """
    read_bits = ""
    for bit in bits:
        due = rule.put(heard)
        if due is None:
            read_bits += bit
        elif due != bit:
            return None
        heard += bit
        if heard.endswith(rule.flag):
            return None
        # Only the beginning of a pattern or of a flag matters for what arrives later.
        heard = tail(heard, [rule.flag, *rule.patterns()])
    return heard, read_bits


def places_behind(rule, kinds, place):
    """All places that are one bit of a body further.

    A place is what was sent last, what was heard last, how many bits more were read than are
    in the message, and whether there was a hit.
    """
    sent, heard, shift, was_hit = place
    due = rule.put(sent)
    found = []
    # A bit that is put in is none of the message.
    bits, many = ("01", 1) if due is None else (due, 0)
    for bit in bits:
        for kind in [None] if was_hit else [None, *kinds]:
            told = hear(rule, heard, arriving(bit, kind))
            if told is not None:
                behind, read_bits = told
                is_hit_now = was_hit or kind is not None
                found.append((last_bits(sent + bit, rule.longest), behind, shift + len(read_bits) - many, is_hit_now))
    return found


def is_end(rule, place):
    """Whether a message can end at a place behind a hit, so that it is read as another one."""
    sent, heard, shift, was_hit = place
    return was_hit and rule.put(sent) is None and can_end(rule, heard)


def shifts(rule, kinds):
    """By how many bits a message can be read longer, or shorter, with one hit of one of these kinds."""
    # Soon behind the hit both have heard the same bits last, and then the shift stays:
    # there are only finitely many places.
    places = reached(("", "", 0, False), lambda place: places_behind(rule, kinds, place))
    return tuple(sorted(set([place[2] for place in places if is_end(rule, place)])))
