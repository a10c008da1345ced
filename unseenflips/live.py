"""Live receivers: lines that are heard bit by bit."""

from unseenflips.errors import InvalidWord, Refused
from unseenflips.lines import frames
from unseenflips.words import is_word


class Hearing:
    """What was heard so far. It does not change: what is heard then makes another one."""

    def __init__(self, current, bits="", is_opened=False, since="", pairs=()):
        # `since` are the bits behind the last flag, or, ahead of an opening flag, all that can belong to it.
        self.current = current
        self.bits = bits
        self.is_opened = is_opened
        self.since = since
        self.pairs = pairs

    def with_bits(self, check, bits):
        """The hearing behind more bits, and the pairs (reason, data) of the frames that they close."""
        if not is_word(bits):
            raise InvalidWord()
        flag = self.current.flag
        is_opened = self.is_opened
        since = self.since + bits
        if not is_opened and flag in since:
            is_opened = True
            since = since[since.find(flag) + len(flag):]
        # As long as there is no opening flag, there is no flag in these bits, so nothing is closed.
        closed = frames(self.current, check, since)
        left = since.split(flag)[-1]
        return Hearing(self.current, self.bits + bits, is_opened, left, self.pairs + closed), closed

    def with_rule(self, rule):
        """The hearing that waits for an opening flag of another rule."""
        return Hearing(rule, self.bits, False, "", self.pairs)


class Live:
    """A receiver that hears a line bit by bit, and can take back what it heard."""

    def __init__(self, rule, check):
        self._check = check
        self._now = Hearing(rule)
        self._earlier = ()

    @property
    def rule(self):
        """The rule that is used now."""
        return self._now.current

    @property
    def check(self):
        """The check that tells which messages are good."""
        return self._check

    @property
    def heard(self):
        """All bits so far."""
        return self._now.bits

    @property
    def is_open(self):
        """Whether an opening flag was heard."""
        return self._now.is_opened

    @property
    def part(self):
        """The bits that were heard behind the last flag."""
        return self._now.since if self._now.is_opened else ""

    @property
    def found(self):
        """The pairs (reason, data) of all frames so far."""
        return self._now.pairs

    def hear(self, bits):
        """Hears the bits of a word, and returns the pairs (reason, data) of the frames that they close."""
        now, closed = self._now.with_bits(self._check, bits)
        self._go_on(now)
        return closed

    def several(self, words):
        """Hears several words, or none of them, and returns what each of them returned."""
        if not isinstance(words, (list, tuple)):
            raise Refused(0)
        now = self._now
        told = []
        for at, bits in enumerate(words):
            try:
                now, closed = now.with_bits(self._check, bits)
            except InvalidWord as error:
                raise Refused(at) from error
            told.append(closed)
        self._go_on(now)
        return tuple(told)

    def change(self, rule):
        """Uses another rule from now on, and waits for an opening flag again."""
        self._go_on(self._now.with_rule(rule))

    def undo(self):
        """Takes back the last change, and returns whether there was one."""
        if len(self._earlier) == 0:
            return False
        self._now = self._earlier[-1]
        self._earlier = self._earlier[:-1]
        return True

    def within(self, work):
        """Returns what work(live) returns; then all is as it was before."""
        now = self._now
        earlier = self._earlier
        try:
            return work(self)
        finally:
            self._now = now
            self._earlier = earlier

    def _go_on(self, now):
        self._earlier = (*self._earlier, self._now)
        self._now = now

    def __len__(self):
        return len(self._earlier)
