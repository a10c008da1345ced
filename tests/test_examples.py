"""The examples of the document, word for word, with what they need from its overview.

Overview:

    >>> from unseenflips.checks import Check
    >>> from unseenflips.lines import receive, send
    >>> from unseenflips.rules import Rule
    >>> ones, odd = Rule("01110", [("11", "0")]), Check("11")
    >>> send(ones, Check(), "1111"), receive(ones, Check(), "11011001110")
    ('11011001110', ('good', '1111'))

Rules:

    >>> ones.put("0110"), ones.put("011"), str(ones), str(ones.swapped()), ones.longest
    (None, '0', 'flag 01110 put 11:0', 'flag 10001 put 00:1', 2)

Checks:

    >>> three = Check("1011", "110")
    >>> three.rest("1"), three.bits_for("1"), three.is_good("1" + three.bits_for("1")), str(Check("11")), Check().degree
    ('110', '001', True, '11 start 0', 0)

Lines:

    >>> from unseenflips.lines import body, frames, taken_out
    >>> body(ones, "0110"), taken_out(ones, "01100"), taken_out(ones, "011"), receive(ones, odd, "0001110")
    ('01100', '0110', None, ('good', '0'))
    >>> frames(ones, Check(), "1011100111001"), receive(ones, Check(), "11101110"), receive(ones, odd, "1001110")
    ((('good', '1'),), ('put', None), ('check', None))
"""

import doctest
import os
import unittest

from unseenflips.errors import InvalidRule
from unseenflips.rules import Rule

README = os.path.join(os.path.dirname(os.path.dirname(os.path.abspath(__file__))), "README.md")


class Examples(unittest.TestCase):
    def test_examples(self):
        test = doctest.DocTestParser().get_doctest(__doc__, {}, "examples", __file__, 0)
        told = []
        result = doctest.DocTestRunner(verbose=False).run(test, out=told.append)
        self.assertEqual((result.failed, result.attempted), (0, 11), "".join(told))

    def test_readme(self):
        result = doctest.testfile(README, module_relative=False)
        self.assertEqual(result.failed, 0)
        self.assertGreater(result.attempted, 0)

    def test_refused_rules(self):
        with self.assertRaises(InvalidRule) as caught:
            Rule("00", [("1", "0"), ("01", "1")])
        self.assertEqual(caught.exception.word, "stuffs")
        with self.assertRaises(InvalidRule) as caught:
            Rule("00", [("11", "1")])
        self.assertEqual(caught.exception.word, "endless")


if __name__ == "__main__":
    unittest.main()
