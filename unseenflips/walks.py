"""Walks in finite nets: how questions about messages of all lengths are decided."""


def reached(begin, onward):
    """All places that are reached from a first one, which is one of them.

    onward(place) is the list of the places that are one step further.
    """
    found = {begin: True}
    ahead = [begin]
    while ahead:
        place = ahead.pop()
        for other in onward(place):
            if other not in found:
                found[other] = True
                ahead.append(other)
    return list(found)


def first_refused(step):
    """The first message with which a walk ends, or None if no message ends it.

    The walk begins at the empty word. step(standing, bit) is the standing behind one more bit
    of the message, or None if the walk ends there.
    """
    seen = set()
    level = [("", "")]
    while level:
        # All messages of a level have the same length and stand in ascending order. Of those that lead to
        # the same standing only the first one counts, as the walk goes on from there in the same way.
        following = []
        for standing, message in level:
            for bit in "01":
                behind = step(standing, bit)
                if behind is None:
                    return message + bit
                if behind not in seen:
                    seen.add(behind)
                    following.append((behind, message + bit))
        level = following
    return None


def shortest_way(begin, onward, is_end):
    """The marks of the steps on some shortest way from a place to an end, or None if there is none.

    onward(place) is the list of the pairs (mark, place) that are one step further.
    """
    if is_end(begin):
        return []
    came = {begin: None}
    level = [begin]
    while level:
        following = []
        for place in level:
            for mark, behind in onward(place):
                if behind not in came:
                    came[behind] = mark, place
                    if is_end(behind):
                        return marks_to(came, behind)
                    following.append(behind)
        level = following
    return None


def marks_to(came, place):
    """The marks on the way to a place; for each place, came tells the last mark and the place ahead of it."""
    marks = []
    while came[place] is not None:
        mark, place = came[place]
        marks.append(mark)
    return marks[::-1]
