"""What several tests need."""

import contextlib
import itertools
import random
import signal

from unseenflips.checks import Check
from unseenflips.errors import InvalidRule, InvalidWord
from unseenflips.rules import Rule

KINDS = ["double", "lose", "turn"]
HOWS = ["same", "shift", "cut", "any"]


def nested(value, depth):
    """The value in lists and tuples, so deep."""
    for level in range(depth):
        value = [value] if level % 2 == 0 else (value,)
    return value


def any_values():
    """Values of all kinds, of which none is a word."""
    return [
        0, 1, -1, 11, 10 ** 20, True, False, None,
        " ", "2", "01 ", " 01", "0 1", "01\n", "\n", "0b1", "a", "\u0661\u0660", "\uff10\uff11", "0,1", "\ud800",
        Rule("01110", [("11", "0")]), Rule("11"), Check(), Check("1011", "110"),
        InvalidRule("flag"), InvalidWord(),
        [], (), ["01"], ("01",), ["0", "1"], ("1", "1"), [[], ()], (None, True, -1),
        nested("01", 8), nested(0, 7), nested(Rule("11"), 6),
    ]


def words(longest, least=0):
    """All words of so many bits at most."""
    for size in range(least, longest + 1):
        for bits in itertools.product("01", repeat=size):
            yield "".join(bits)


def rules(flag, stuffs, longest):
    """All rules with this flag, exactly so many stuffs, and patterns of so many bits at most."""
    for patterns in itertools.combinations(list(words(longest, 1)), stuffs):
        for bits in itertools.product("01", repeat=stuffs):
            try:
                yield Rule(flag, list(zip(patterns, bits)))
            except InvalidRule:
                pass


def some_rules(many, seed, flag_bits=6, pattern_bits=4):
    """So many rules of all sorts, with up to two stuffs, and flags and patterns of so many bits at most."""
    chance = random.Random(seed)
    made = 0
    while made < many:
        flag = "".join(chance.choice("01") for _ in range(chance.randint(2, flag_bits)))
        try:
            yield Rule(flag, [some_stuff(chance, flag, pattern_bits) for _ in range(chance.randint(0, 2))])
            made += 1
        except InvalidRule:
            pass


def some_stuff(chance, flag, pattern_bits):
    """A stuff; every other one breaks the flag somewhere, so that some of the rules are clean."""
    size = chance.randint(1, pattern_bits)
    if size < len(flag) and chance.random() < 0.5:
        at = chance.randrange(len(flag) - size)
        return flag[at:at + size], {"0": "1", "1": "0"}[flag[at + size]]
    return "".join(chance.choice("01") for _ in range(size)), chance.choice("01")


def plain_filled(rule, line):
    """The line with all bits that are put in behind it, each time with a look at all patterns."""
    while True:
        due = [bit for pattern, bit in rule.stuffs if line[-len(pattern):] == pattern]
        if not due:
            return line
        line += due[0]


def plain_body(rule, message):
    """The body of a message, bit by bit."""
    line = ""
    for bit in message:
        line = plain_filled(rule, line + bit)
    return line


def plain_bodies(rule, longest):
    """The bodies of all messages of so many bits at most, by their messages, the first ones first."""
    found = {"": ""}
    for message in words(longest, 1):
        found[message] = plain_filled(rule, found[message[:-1]] + message[-1])
    return found


def plain_read(rule, line):
    """The message with this body, or None: as long as it fits, the next bit of the line is one of the message."""
    message = ahead = ""
    while len(ahead) < len(line):
        message += line[len(ahead)]
        ahead = plain_filled(rule, ahead + message[-1])
        if line[:len(ahead)] != ahead:
            return None
    return message


def plain_hit(line, hits):
    """The line with these hits, the last one first, each one cut and put in."""
    for at, kind in sorted(hits, reverse=True):
        other = {"double": line[at] * 2, "lose": "", "turn": {"0": "1", "1": "0"}[line[at]]}[kind]
        line = line[:at] + other + line[at + 1:]
    return line


def all_hits(bits, kinds, many):
    """All ascending tuples of so many hits of these kinds on a line of so many bits."""
    for places in itertools.combinations(range(bits), many):
        for chosen in itertools.product(kinds, repeat=many):
            yield tuple(zip(places, chosen))


def plain_way(rule, check, data, line, hits):
    """How these hits on the line for the data are unseen, in the words of the promise, or None."""
    arrived = plain_hit(line, hits)
    part = arrived[:(arrived + rule.flag).index(rule.flag)]
    message = plain_read(rule, part)
    if message is None or not check.is_good(message):
        return None
    other = message[:len(message) - check.degree]
    if other == data:
        return None
    if part != arrived:
        return "cut"
    return "same" if len(other) == len(data) else "shift"


def plain_unseen(rule, check, kinds, size, many):
    """For each way the number of all pairs of data of this size and so many hits that are unseen, by trying them."""
    found = dict.fromkeys(HOWS, 0)
    for data in words(size, size):
        line = plain_body(rule, data + check.bits_for(data))
        for hits in all_hits(len(line), kinds, many):
            way = plain_way(rule, check, data, line, hits)
            if way is not None:
                found[way] += 1
                found["any"] += 1
    return found


def some_check(chance, degree=2):
    """Some check of a degree of so much at most."""
    degree = chance.randint(0, degree)
    if degree == 0:
        return Check()
    middle, start = ("".join(chance.choice("01") for _ in range(size)) for size in (degree - 1, degree))
    return Check("1" + middle + "1", start)


class TooLong(BaseException):
    """An answer did not come in good time."""


@contextlib.contextmanager
def in_good_time(seconds):
    """Raises TooLong if the rows below take more seconds, also if they never end."""

    def stop(number, frame):
        raise TooLong(seconds)

    before = signal.signal(signal.SIGALRM, stop)
    signal.alarm(seconds)
    try:
        yield
    finally:
        signal.alarm(0)
        signal.signal(signal.SIGALRM, before)
