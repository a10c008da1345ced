"""What several tests need."""

import contextlib
import itertools
import random
import signal

from unseenflips.checks import Check
from unseenflips.errors import InvalidRule, InvalidWord
from unseenflips.rules import Rule


def nested(value, depth):
    """The value in lists and tuples, so deep."""
    for level in range(depth):
        value = [value] if level % 2 == 0 else (value,)
    return value


def any_values():
    """Values of all kinds, of which none is a word."""
    return [
        0, 1, -1, 11, 10 ** 20, True, False, None,
        " ", "2", "01 ", " 01", "0 1", "01\n", "\n", "0b1", "a", "\u0661\u0660", "\uff10\uff11", "0,1", "\ud800",
        Rule("01110", [("11", "0")]), Rule("11"), Check(), Check("1011", "110"),
        InvalidRule("flag"), InvalidWord(),
        [], (), ["01"], ("01",), ["0", "1"], ("1", "1"), [[], ()], (None, True, -1),
        nested("01", 8), nested(0, 7), nested(Rule("11"), 6),
    ]


def words(longest, least=0):
    """All words of so many bits at most."""
    for size in range(least, longest + 1):
        for bits in itertools.product("01", repeat=size):
            yield "".join(bits)


def rules(flag, stuffs, longest):
    """All rules with this flag, exactly so many stuffs, and patterns of so many bits at most."""
    for patterns in itertools.combinations(list(words(longest, 1)), stuffs):
        for bits in itertools.product("01", repeat=stuffs):
            try:
                yield Rule(flag, list(zip(patterns, bits)))
            except InvalidRule:
                pass


def some_rules(many, seed):
    """So many rules of all sorts: flags of 2 to 6 bits, up to two stuffs, patterns of 1 to 4 bits."""
    chance = random.Random(seed)
    made = 0
    while made < many:
        flag = "".join(chance.choice("01") for _ in range(chance.randint(2, 6)))
        try:
            yield Rule(flag, [some_stuff(chance, flag) for _ in range(chance.randint(0, 2))])
            made += 1
        except InvalidRule:
            pass


def some_stuff(chance, flag):
    """A stuff; every other one breaks the flag somewhere, so that some of the rules are clean."""
    size = chance.randint(1, 4)
    if size < len(flag) and chance.random() < 0.5:
        at = chance.randrange(len(flag) - size)
        return flag[at:at + size], {"0": "1", "1": "0"}[flag[at + size]]
    return "".join(chance.choice("01") for _ in range(size)), chance.choice("01")


def plain_filled(rule, line):
    """The line with all bits that are put in behind it, each time with a look at all patterns."""
    while True:
        due = [bit for pattern, bit in rule.stuffs if line[-len(pattern):] == pattern]
        if not due:
            return line
        line += due[0]


def plain_body(rule, message):
    """The body of a message, bit by bit."""
    line = ""
    for bit in message:
        line = plain_filled(rule, line + bit)
    return line


def plain_bodies(rule, longest):
    """The bodies of all messages of so many bits at most, by their messages, the first ones first."""
    found = {"": ""}
    for message in words(longest, 1):
        found[message] = plain_filled(rule, found[message[:-1]] + message[-1])
    return found


class TooLong(BaseException):
    """An answer did not come in good time."""


@contextlib.contextmanager
def in_good_time(seconds):
    """Raises TooLong if the rows below take more seconds, also if they never end."""

    def stop(number, frame):
        raise TooLong(seconds)

    before = signal.signal(signal.SIGALRM, stop)
    signal.alarm(seconds)
    try:
        yield
    finally:
        signal.alarm(0)
        signal.signal(signal.SIGALRM, before)
