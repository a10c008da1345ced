"""Desks: commands about a rule, a check and a live receiver."""

from unseenflips.checks import Check
from unseenflips.clean import is_clean
from unseenflips.costs import rate
from unseenflips.errors import InvalidCommand
from unseenflips.lines import send
from unseenflips.live import Live
from unseenflips.nets import HOWS
from unseenflips.rules import Rule
from unseenflips.unseen import first_unseen
from unseenflips.words import is_word


def words_in(command):
    """The words of a command, which is any value at all."""
    if not isinstance(command, str) or "\n" in command:
        raise InvalidCommand()
    words = command.split(" ")
    if "" in words:
        raise InvalidCommand()
    return words


def has_form(words):
    """Whether words, of which there is at least one, have the form of a command."""
    name = words[0]
    more = words[1:]
    if name in ("rule", "check"):
        return len(more) > 0
    if name in ("send", "hear"):
        return len(more) == 1 and is_word(more[0], 1)
    if name == "turns":
        return len(more) == 1 and more[0] in HOWS
    return name in ("rate", "undo") and len(more) == 0


def text_of(pair):
    """The text for a pair (reason, data)."""
    reason, data = pair
    if reason != "good":
        return reason
    return "good -" if data == "" else f"good {data}"


class Desk:
    """Executes commands about a live receiver, which it keeps."""

    def __init__(self):
        self.live = None

    def say(self, command):
        """Executes a command, and returns what it tells."""
        words = words_in(command)
        if not has_form(words):
            raise InvalidCommand()
        text = " ".join(words[1:])
        if words[0] == "rule":
            return self._take_rule(Rule.read(text))
        if self.live is None:
            raise InvalidCommand()
        if words[0] == "check":
            return self._take_check(Check.read(text))
        if words[0] == "hear":
            closed = self.live.hear(text)
            return ", ".join([text_of(pair) for pair in closed]) if len(closed) > 0 else "nothing"
        if words[0] == "undo":
            return "undone" if self.live.undo() else "nothing"
        return self._answer(words[0], text)

    def _take_rule(self, rule):
        told = "clean" if is_clean(rule) else "spoiled"
        self.live = Live(rule, Check())
        return told

    def _take_check(self, check):
        self.live = Live(self.live.rule, check)
        return str(check.degree)

    def _answer(self, name, text):
        """What is told about the rule and the check, without a change."""
        rule = self.live.rule
        check = self.live.check
        if name == "send":
            return send(rule, check, text)
        if name == "rate":
            over, under = rate(rule)
            return f"{over}/{under}"
        size = first_unseen(rule, check, ["turn"], 1, text)
        return "never" if size is None else str(size)
