"""Nets: where a sender and a receiver can stand while bits are sent, hit and heard.

A place behind some bits of a message is a tuple (sent, heard, cut, gap, used): what was sent last, what was
heard last, how much of a flag that comes too early was heard, the gap, and the number of hits.

A gap tells how the message that is read differs from the one that is sent. It is a pair (shift, waiting):
how many bits more were read than sent, and those bits which one of the two has and the other one has not
come to yet. `waiting` is None as soon as both messages had another bit at the same number.
"""

from unseenflips.hits import arriving, hear
from unseenflips.lines import can_end, filled
from unseenflips.words import tail

HOWS = ("same", "shift", "cut", "any")


def moved(gap, by, bit):
    """The gap behind one more bit of the message that is read (by is 1) or sent (by is -1)."""
    shift, waiting = gap
    if waiting is None:
        return shift + by, None
    if shift * by >= 0:
        return shift + by, waiting + bit
    return shift + by, (waiting[1:] if waiting[0] == bit else None)


class Net:
    """All places for a rule, at most so many hits of some kinds, and a way to be unseen.

    Places have numbers, in the order in which they are found. Only those that are asked for are found.
    """

    def __init__(self, rule, kinds, hits, how):
        self._rule = rule
        self._kinds = tuple(kinds)
        self._most = hits
        self._how = how
        self._places = []
        self._numbers = {}
        self._steps = {}
        # For a shift only the numbers of bits matter, so both messages may be taken as unlike at once.
        self.begin = self._number(("", "", 0, (0, None if how == "shift" else ""), 0))

    def used(self, number):
        """The number of hits on the way to a place."""
        return self._places[number][4]

    def is_end(self, number):
        """Whether hits are unseen in this way if the message ends at this place, and both rests are good."""
        sent, heard, cut, (shift, waiting), used = self._places[number]
        flag = self._rule.flag
        is_unlike = shift != 0 or waiting is None
        if cut > 0:
            return is_unlike and flag.startswith(flag[cut:])
        if not can_end(self._rule, heard):
            return False
        if self._how == "same":
            return shift == 0 and is_unlike
        return self._how != "cut" and (shift != 0 if self._how == "shift" else is_unlike)

    def steps(self, number):
        """The steps from a place with one more bit of the message, as a list.

        Each is a tuple (place, bit, read, hits, many): the number of the place behind it, the bit that is
        sent, the bits that are read, some hits with which this comes, and the number of such hits. A hit is
        a pair (at, kind), numbered from the bit of the message on.
        """
        if number not in self._steps:
            self._steps[number] = self._steps_from(self._places[number])
        return self._steps[number]

    def _number(self, place):
        if place not in self._numbers:
            self._numbers[place] = len(self._places)
            self._places.append(place)
        return self._numbers[place]

    def _steps_from(self, place):
        sent, heard, cut, gap, used = place
        found = {}
        for bit in "01":
            line = filled(self._rule, sent + bit)
            ear = heard, cut, self._gap_behind(gap, -1, bit, cut), ""
            for (heard_now, cut_now, gap_now, read), hits in self._heard_of(line[len(sent):], ear, used):
                behind = tail(line, self._rule.patterns()), heard_now, cut_now, gap_now, used + len(hits)
                key = self._number(behind), bit, read
                first, many = found.get(key, (hits, 0))
                found[key] = first, many + 1
        return [(*key, *told) for key, told in found.items()]

    def _heard_of(self, bits, ear, used):
        """All pairs (ear, hits) behind these bits of a line, where the receiver can still accept.

        An ear is a tuple (heard, cut, gap, read): as in places, and the bits that were read by now.
        """
        ways = [(ear, ())]
        for at, bit in enumerate(bits):
            behind = []
            for before, hits in ways:
                behind += [(now, hits) for now in self._arrived(before, bit)]
                if used + len(hits) < self._most:
                    for kind in self._kinds:
                        more = (*hits, (at, kind))
                        behind += [(now, more) for now in self._arrived(before, arriving(bit, kind))]
            ways = behind
        return ways

    def _arrived(self, ear, bits):
        """All ears behind bits that arrive, where the receiver can still accept."""
        ears = [ear]
        for bit in bits:
            ears = [behind for before in ears for behind in self._ears_behind(before, bit)]
        return ears

    def _ears_behind(self, ear, bit):
        heard, cut, gap, read = ear
        flag = self._rule.flag
        if cut == len(flag):
            return [ear]
        if cut > 0:
            return [(heard, cut + 1, gap, read)] if bit == flag[cut] else []
        found = []
        told = hear(self._rule, heard, bit)
        if told is not None:
            now, new = told
            found.append((now, 0, self._gap_behind(gap, 1, new, 0) if new != "" else gap, read + new))
        # This bit can also be the first one of a flag that comes too early. If so, all that follows tells.
        if self._how in ("cut", "any") and bit == flag[0] and can_end(self._rule, heard):
            found.append(("", 1, self._settled(gap, 1), read))
        return found

    def _gap_behind(self, gap, by, bit, cut):
        return self._settled(moved(gap, by, bit), cut)

    def _settled(self, gap, cut):
        """The gap, without what does not matter any more."""
        shift, waiting = gap
        if self._how in ("same", "shift"):
            return gap
        # Nothing more is read behind a cut, so a message that is longer by then stays so.
        if waiting is None or cut > 0 and shift < 0:
            return 0, None
        return gap
