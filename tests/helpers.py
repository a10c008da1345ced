"""What several tests need."""

import contextlib
import itertools
import signal

from unseenflips.checks import Check
from unseenflips.errors import InvalidRule, InvalidWord
from unseenflips.rules import Rule


def nested(value, depth):
    """The value in lists and tuples, so deep."""
    for level in range(depth):
        value = [value] if level % 2 == 0 else (value,)
    return value


def any_values():
    """Values of all kinds, of which none is a word."""
    return [
        0, 1, -1, 11, 10 ** 20, True, False, None,
        " ", "2", "01 ", " 01", "0 1", "01\n", "\n", "0b1", "a", "\u0661\u0660", "\uff10\uff11", "0,1", "\ud800",
        Rule("01110", [("11", "0")]), Rule("11"), Check(), Check("1011", "110"),
        InvalidRule("flag"), InvalidWord(),
        [], (), ["01"], ("01",), ["0", "1"], ("1", "1"), [[], ()], (None, True, -1),
        nested("01", 8), nested(0, 7), nested(Rule("11"), 6),
    ]


def words(longest, least=0):
    """All words of so many bits at most."""
    for size in range(least, longest + 1):
        for bits in itertools.product("01", repeat=size):
            yield "".join(bits)


def rules(flag, stuffs, longest):
    """All rules with this flag, exactly so many stuffs, and patterns of so many bits at most."""
    for patterns in itertools.combinations(list(words(longest, 1)), stuffs):
        for bits in itertools.product("01", repeat=stuffs):
            try:
                yield Rule(flag, list(zip(patterns, bits)))
            except InvalidRule:
                pass


class TooLong(BaseException):
    """An answer did not come in good time."""


@contextlib.contextmanager
def in_good_time(seconds):
    """Raises TooLong if the rows below take more seconds, also if they never end."""

    def stop(number, frame):
        raise TooLong(seconds)

    before = signal.signal(signal.SIGALRM, stop)
    signal.alarm(seconds)
    try:
        yield
    finally:
        signal.alarm(0)
        signal.signal(signal.SIGALRM, before)
