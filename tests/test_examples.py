"""The examples of the document, word for word, with what they need from its overview.

Overview:

    >>> from unseenflips.checks import Check
    >>> from unseenflips.clean import is_clean
    >>> from unseenflips.costs import rate
    >>> from unseenflips.lines import receive, send
    >>> from unseenflips.rules import Rule
    >>> from unseenflips.unseen import first_unseen
    >>> ones, odd = Rule("01110", [("11", "0")]), Check("11")
    >>> is_clean(ones), rate(ones), send(ones, Check(), "1111"), receive(ones, Check(), "11011001110")
    (True, (1, 2), '11011001110', ('good', '1111'))
    >>> [first_unseen(ones, Check(), ["turn"], 1, how) for how in ("same", "shift", "cut")]
    [1, 2, 3]
    >>> [first_unseen(ones, odd, ["turn"], 1, how) for how in ("same", "shift", "cut")]
    [None, None, 3]

Rules:

    >>> ones.put("0110"), ones.put("011"), str(ones), str(ones.swapped()), ones.longest
    (None, '0', 'flag 01110 put 11:0', 'flag 10001 put 00:1', 2)

Checks:

    >>> three = Check("1011", "110")
    >>> three.rest("1"), three.bits_for("1"), three.is_good("1" + three.bits_for("1")), str(Check("11")), Check().degree
    ('110', '001', True, '11 start 0', 0)

Lines:

    >>> from unseenflips.lines import body, frames, taken_out
    >>> body(ones, "0110"), taken_out(ones, "01100"), taken_out(ones, "011"), receive(ones, odd, "0001110")
    ('01100', '0110', None, ('good', '0'))
    >>> frames(ones, Check(), "1011100111001"), receive(ones, Check(), "11101110"), receive(ones, odd, "1001110")
    ((('good', '1'),), ('put', None), ('check', None))

Clean rules:

    >>> from unseenflips.clean import clean_paper, clean_paper_holds, flag_at, spoiled
    >>> zeros = Rule("0010", [("001", "1")])
    >>> is_clean(zeros), spoiled(Rule("01110", [("111", "0")])), spoiled(Rule("11")), flag_at(Rule("11"), "010")
    (True, '0111', '1', 3)

Costs:

    >>> from unseenflips.costs import all_put, dearest, most_put, rate_paper, rate_paper_holds
    >>> most_put(ones, 5), dearest(ones, 5), all_put(ones, 2), rate(zeros), rate_paper(ones, (2, 5))
    (2, '01111', 1, (1, 3), None)
    >>> rate_paper_holds(ones, (1, 2), rate_paper(ones, (1, 2))), rate_paper_holds(ones, (1, 2), ())
    (True, False)

Rules compared:

    >>> from unseenflips.comparing import alike, could_be, parting
    >>> alike(ones, Rule("11", [("11", "0")])), parting(ones, zeros), could_be("01110", 2, [("11", "110")])
    (True, '11', ('flag 01110 put 11:0',))

Hits:

    >>> from unseenflips.hits import hit, shifts
    >>> hit("0110", [(0, "double"), (2, "lose"), (3, "turn")]), shifts(ones, ["turn"]), shifts(Rule("01110"), ["lose"])
    ('0011', (-1, 0, 1), (-1,))

Unseen hits:

    >>> from unseenflips.unseen import count_unseen, example, unseen_sizes
    >>> first_unseen(ones, odd, ["turn"], 2, "same"), example(ones, odd, ["turn"], 1, "same"), first_unseen(Rule("11"), Check(), [], 0, "cut")
    (2, None, 1)
    >>> count_unseen(ones, Check(), ["turn"], 1, 1, "same"), count_unseen(ones, odd, ["turn"], 2, 1, "any"), unseen_sizes(ones, Check(), ["lose"], 1, "shift", 2)
    (2, 0, (1, 2))

Best rules and checks:

    >>> from unseenflips.best import cheapest, clean_rules
    >>> "flag 01110 put 11:0" in clean_rules("01110", 2), clean_rules("11", 1), cheapest("11", 1)
    (True, ('flag 11 put 1:0',), ('flag 11 put 1:0',))

Live receivers:

    >>> from unseenflips.live import Live
    >>> live = Live(ones, odd)
    >>> live.hear("00111"), live.hear("0000111"), live.hear("011001110"), live.part, live.is_open, len(live)
    ((), (), (('good', '0'), ('good', '1')), '', True, 3)

Desks:

    >>> from unseenflips.desk import Desk
    >>> desk = Desk()
    >>> desk.say("rule " + str(ones)), desk.say("send 11"), desk.say("check 11 start 0"), desk.say("turns cut"), desk.say("hear 011100001110"), desk.say("undo")
    ('clean', '11001110', '1', '3', 'good 0', 'undone')
"""

import doctest
import os
import unittest

from unseenflips.errors import InvalidRule
from unseenflips.rules import Rule

README = os.path.join(os.path.dirname(os.path.dirname(os.path.abspath(__file__))), "README.md")


class Examples(unittest.TestCase):
    def test_examples(self):
        test = doctest.DocTestParser().get_doctest(__doc__, {}, "examples", __file__, 0)
        told = []
        result = doctest.DocTestRunner(verbose=False).run(test, out=told.append)
        self.assertEqual((result.failed, result.attempted), (0, 37), "".join(told))

    def test_readme(self):
        result = doctest.testfile(README, module_relative=False)
        self.assertEqual(result.failed, 0)
        self.assertGreater(result.attempted, 0)

    def test_refused_rules(self):
        with self.assertRaises(InvalidRule) as caught:
            Rule("00", [("1", "0"), ("01", "1")])
        self.assertEqual(caught.exception.word, "stuffs")
        with self.assertRaises(InvalidRule) as caught:
            Rule("00", [("11", "1")])
        self.assertEqual(caught.exception.word, "endless")


if __name__ == "__main__":
    unittest.main()
