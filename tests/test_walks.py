"""Walks in finite nets, on which the answers for messages of all lengths rest."""

import unittest

from unseenflips.walks import first_refused, reached, shortest_way

NET = {
    "a": [("ab", "b"), ("ac", "c")], "b": [("bb", "b"), ("bd", "d")], "c": [("cd", "d"), ("ce", "e"), ("ca", "a")],
    "d": [("de", "e"), ("df", "f")], "e": [("ef", "f")], "f": [], "g": [("ga", "a")]}


class Walks(unittest.TestCase):
    def way(self, begin, ends):
        return shortest_way(begin, NET.get, lambda place: place in ends)

    def test_shortest_way(self):
        self.assertEqual(self.way("a", "b"), ["ab"])
        self.assertEqual(self.way("a", "e"), ["ac", "ce"])
        self.assertEqual(self.way("a", "ed"), ["ab", "bd"])
        self.assertEqual(self.way("g", "ef"), ["ga", "ac", "ce"])
        self.assertIn(self.way("a", "f"), [["ab", "bd", "df"], ["ac", "cd", "df"], ["ac", "ce", "ef"]])

    def test_no_step(self):
        for place in NET:
            self.assertEqual(self.way(place, place), [])
            self.assertEqual(self.way(place, "abcdefg"), [])

    def test_no_way(self):
        for begin, ends in [("a", "g"), ("f", "abcdeg"), ("b", "ac"), ("e", "bd"), ("a", "")]:
            self.assertIsNone(self.way(begin, ends))

    def test_reached(self):
        def onward(place):
            return [behind for mark, behind in NET[place]]

        for begin, expected in [("a", "abcdef"), ("b", "bdef"), ("f", "f"), ("g", "abcdefg")]:
            told = reached(begin, onward)
            self.assertEqual((sorted(told), told[0]), (list(expected), begin))

    def test_first_refused(self):
        self.assertEqual(first_refused(lambda standing, bit: None if standing + bit == "10" else standing + bit), "10")
        self.assertEqual(first_refused(lambda standing, bit: bit if standing != "1" else None), "10")
        self.assertEqual(first_refused(lambda standing, bit: None), "0")
        self.assertIsNone(first_refused(lambda standing, bit: bit))


if __name__ == "__main__":
    unittest.main()
