"""[1] and [2]: what holds for everything."""

import math
import unittest

from tests.helpers import any_values, nested, some_rules, words
from unseenflips.best import best_checks, cheapest, clean_rules
from unseenflips.checks import Check
from unseenflips.clean import clean_paper, clean_paper_holds, flag_at, is_clean, spoiled
from unseenflips.comparing import alike, could_be, parting
from unseenflips.costs import all_put, dearest, most_put, rate, rate_paper, rate_paper_holds
from unseenflips.desk import Desk
from unseenflips.errors import InvalidCheck, InvalidCommand, InvalidHits, InvalidRule, InvalidText, InvalidWord, Refused
from unseenflips.hits import hit, shifts
from unseenflips.lines import body, frames, receive, send, taken_out
from unseenflips.live import Live
from unseenflips.rules import Rule
from unseenflips.unseen import count_unseen, example, first_unseen, unseen_sizes

ONES, ODD = Rule("01110", [("11", "0")]), Check("11")


def told(work, *given):
    """What a call returns, or which error it raises."""
    try:
        return str(work(*given))
    except (InvalidRule, InvalidCheck) as error:
        return error.__class__, error.word
    except (InvalidText, InvalidHits, Refused) as error:
        return error.__class__, error.at
    except (InvalidWord, InvalidCommand) as error:
        return error.__class__, None


def asked_of_nets():
    """Answers for messages of all lengths, for rules that are made anew."""
    known = [
        Rule("01110", [("11", "0")]), Rule("01110", [("11", "0"), ("001", "1")]), Rule("11"), Rule("11", [("1", "0")])]
    return [
        (is_clean(rule), spoiled(rule), flag_at(rule, "0110"), clean_paper(rule), clean_paper_holds(rule, ("", "0")),
         most_put(rule, 9), dearest(rule, 9), all_put(rule, 9), rate(rule), rate_paper(rule, (1, 2)),
         rate_paper(rule, (7, 2)), rate_paper_holds(rule, (1, 2), (("", (0, 1)),)),
         [(alike(rule, other), parting(rule, other)) for other in known],
         could_be(rule.flag, 3, [("11", body(rule, "11"))]), hit("01", [(0, "turn")]), shifts(rule, ["turn", "lose"]),
         asked_of_hits(rule), clean_rules(rule.flag, 3), cheapest(rule.flag, 3))
        for rule in known]


def asked_of_hits(rule):
    """Answers about unseen hits."""
    return [
        (first_unseen(rule, check, kinds, 1, how), example(rule, check, kinds, 1, how),
         count_unseen(rule, check, kinds, 3, 1, how), unseen_sizes(rule, check, kinds, 1, how, 4),
         best_checks(rule, check.degree, kinds, 1, how))
        for check in [Check(), Check("11", "1")] for kinds in [["turn"], ["lose", "double"]]
        for how in ["same", "shift", "cut", "any"]]


class AnyValues(unittest.TestCase):
    def test_only_the_errors_that_are_described(self):
        values = any_values() + ["", "1", "01", "11", "flag 11", "11 start 0", [("11", "0")]]
        for work in [Rule, Check]:
            for one in values:
                told(work, one)
                for other in values:
                    told(work, one, other)
        for work in [Rule.read, Check.read]:
            for one in values:
                told(work, one)
        for one in values + [[value] for value in values] + [(value, value) for value in values]:
            self.assertIn(told(clean_paper_holds, ONES, one), ["True", "False"])
            self.assertIn(told(rate_paper_holds, ONES, (1, 2), one), ["True", "False"])
            told(hit, "0110", one)
            live = Live(ONES, ODD)
            self.assertIn(told(live.hear, one), ["()", (InvalidWord, None)])
            self.assertIn(told(live.several, one), ["()", "((),)", "((), ())", (Refused, 0), (Refused, 1)])
            for desk in [Desk(), self.desk()]:
                self.assertIn(told(desk.say, one), ["spoiled", "1", (InvalidCommand, None), (InvalidText, 0)])
            for other in values:
                self.assertIn(told(clean_paper_holds, ONES, ("", one, other)), ["True", "False"])
                self.assertIn(told(rate_paper_holds, ONES, (1, 2), (("", (0, 1)), (one, other))), ["True", "False"])
                told(hit, "0110", [(0, "turn"), (one, other)])

    def desk(self):
        desk = Desk()
        desk.say("rule " + str(ONES))
        return desk

    def test_eight_deep(self):
        for depth in range(1, 9):
            deep = nested("01", depth)
            self.assertEqual(told(Rule, deep), (InvalidRule, "flag"))
            self.assertEqual(told(Rule, "01", deep), (InvalidRule, "stuffs"))
            self.assertEqual(told(Rule, "01", [(deep, "0")]), (InvalidRule, "stuffs"))
            self.assertEqual(told(Check, deep), (InvalidCheck, "poly"))
            self.assertEqual(told(Check, "11", deep), (InvalidCheck, "start"))
            self.assertEqual(told(Rule.read, deep), (InvalidText, 0))
            self.assertEqual(told(Check.read, deep), (InvalidText, 0))
            self.assertEqual(told(clean_paper_holds, ONES, deep), "False")
            self.assertEqual(told(rate_paper_holds, ONES, (1, 2), deep), "False")
            self.assertEqual(told(hit, "01", deep), (InvalidHits, 0))
            self.assertEqual(told(Live(ONES, ODD).hear, deep), (InvalidWord, None))
            self.assertEqual(told(Live(ONES, ODD).several, nested("2", depth)), (Refused, 0))
            self.assertEqual(told(Live(ONES, ODD).several, ["0", deep]), (Refused, 1))
            self.assertEqual(told(self.desk().say, nested("undo", depth)), (InvalidCommand, None))

    def test_no_integer_or_bool_is_a_bit(self):
        for bit in [0, 1, True, False]:
            self.assertEqual(told(Rule, "01", [("11", bit)]), (InvalidRule, "stuffs"))
            self.assertEqual(told(Rule, "01", [(bit, "0")]), (InvalidRule, "stuffs"))
            self.assertEqual(told(Check, bit), (InvalidCheck, "poly"))
            self.assertEqual(told(Check, "11", bit), (InvalidCheck, "start"))

    def test_what_tells_whether_is_a_bool(self):
        for message in words(3):
            self.assertIsInstance(ODD.is_good(message), bool)
        for other in any_values():
            self.assertIsInstance(ONES == other, bool)
            self.assertIsInstance(ODD == other, bool)
        for rule in some_rules(30, 51):
            for answer in [is_clean(rule), alike(rule, ONES), clean_paper_holds(rule, ()),
                           clean_paper_holds(rule, None), clean_paper_holds(rule, clean_paper(rule)),
                           rate_paper_holds(rule, (4, 1), None),
                           rate_paper_holds(rule, (4, 1), rate_paper(rule, (4, 1)))]:
                self.assertIs(answer.__class__, bool)

    def test_values(self):
        for rule in some_rules(60, 52):
            paper = rate_paper(rule, (31, 7))
            for value in [rate(rule)] + [height for standing, height in paper]:
                self.assertEqual([part.__class__ for part in (value,) + value], [tuple, int, int])
                self.assertEqual((len(value), math.gcd(value[0], value[1]), value[1] > 0), (2, 1, True))


class Changes(unittest.TestCase):
    def test_arguments_stay(self):
        stuffs = [("11", "0"), ("001", "1")]
        Rule("01110", stuffs)
        self.assertEqual(stuffs, [("11", "0"), ("001", "1")])

    def test_refused_arguments_stay(self):
        stuffs = [("11", "1"), ("001", "1")]
        self.assertRaises(InvalidRule, Rule, "01110", stuffs)
        self.assertEqual(stuffs, [("11", "1"), ("001", "1")])

    def test_later_changes_have_no_effect(self):
        stuffs = [("11", "0")]
        rule = Rule("01110", stuffs)
        stuffs.append(("000", "1"))
        stuffs[0] = ("10", "1")
        self.assertEqual((rule.stuffs, len(rule), str(rule)), ((("11", "0"),), 1, "flag 01110 put 11:0"))
        self.assertEqual(body(rule, "11000"), "110000")

    def test_a_list_and_a_tuple_are_the_same(self):
        self.assertEqual(Rule("01110", [("11", "0")]), Rule("01110", (("11", "0"),)))

    def test_a_pair_is_a_tuple(self):
        self.assertRaises(InvalidRule, Rule, "01110", [["11", "0"]])

    def test_equal_results_whatever_was_asked_in_between(self):
        rules = [Rule("01110", [("11", "0")]), Rule("01110", [("11", "0"), ("001", "1")]), Rule("11")]
        checks = [Check(), Check("11"), Check("1011", "110")]

        def asked():
            return [
                (body(rule, word), taken_out(rule, word), send(rule, check, word), receive(rule, check, word),
                 frames(rule, check, word), rule.put(word), rule.longest, str(rule), str(rule.swapped()), len(rule),
                 check.rest(word), check.bits_for(word), check.is_good(word), str(check), check.degree)
                for rule in rules for check in checks for word in words(5)]

        first, first_of_nets = asked(), asked_of_nets()
        for rule in some_rules(100, 53):
            spoiled(rule), clean_paper(rule), rate(rule), dearest(rule, 20), shifts(rule, ["turn"]), parting(rule, ONES)
            first_unseen(rule, ODD, ["turn"], 1, "any"), Live(rule, ODD).hear("0" + rule.flag * 3)
        self.assertEqual(asked_of_nets(), first_of_nets)
        for value in any_values():
            for work in [Rule, Check, Rule.read, Check.read]:
                told(work, value)
        self.assertEqual((asked(), asked_of_nets()), (first, first_of_nets))
        self.assertEqual([rule.stuffs for rule in rules], [(("11", "0"),), (("001", "1"), ("11", "0")), ()])

    def test_sequences_are_tuples(self):
        self.assertIs(Rule("01110", [("11", "0")]).stuffs.__class__, tuple)
        self.assertIs(Rule("01110", [("11", "0")]).stuffs[0].__class__, tuple)
        self.assertIs(Rule("01110", []).stuffs.__class__, tuple)
        pairs = frames(ONES, Check(), "101110001110")
        self.assertEqual([part.__class__ for part in (pairs,) + pairs], [tuple] * 3)
        self.assertIs(receive(ONES, Check(), "").__class__, tuple)
        paper = rate_paper(ONES, (1, 2))
        for result in (clean_paper(ONES), paper, could_be("01110", 2, []), shifts(ONES, ["turn"]), shifts(ONES, []),
                       could_be("01110", 0, []), rate(ONES)) + paper:
            self.assertIs(result.__class__, tuple)

    def test_sequences_of_later_modules_are_tuples(self):
        told = example(ONES, Check(), ["turn"], 1, "same")
        self.assertEqual([part.__class__ for part in (told, *told, *told[1])], [tuple, str, tuple, tuple])
        self.assertIs(example(Rule("11"), Check(), [], 0, "cut")[1].__class__, tuple)
        live = Live(Rule("11"), Check())
        for result in [unseen_sizes(ONES, ODD, ["turn"], 1, how, 5) for how in ["same", "cut"]] + [
                clean_rules("01110", 3), clean_rules("01", 3), cheapest("01110", 3), cheapest("01", 3),
                best_checks(ONES, 2, ["turn"], 1, "same"), best_checks(ONES, 0, ["turn"], 1, "cut"),
                live.found, live.hear("11"), live.hear("011"), live.found, live.found[0], live.several([]),
                live.several(["0"]), live.several(["011"])[0], live.several(["011"])[0][0]]:
            self.assertIs(result.__class__, tuple)

    def test_sequences_may_be_lists_or_tuples(self):
        pairs, hits, kinds = [("11", "110"), ("1", "1")], [(0, "double"), (2, "lose")], ["turn", "lose"]
        before = list(pairs), list(hits), list(kinds)
        self.assertEqual(could_be("01110", 3, pairs), could_be("01110", 3, tuple(pairs)))
        self.assertEqual(hit("0110", hits), hit("0110", tuple(hits)))
        self.assertEqual(shifts(ONES, kinds), shifts(ONES, tuple(kinds)))
        for how in ["same", "shift", "cut", "any"]:
            for work, behind in [(first_unseen, (2, how)), (example, (1, how)), (count_unseen, (3, 2, how)),
                                 (unseen_sizes, (2, how, 4))]:
                self.assertEqual(work(ONES, ODD, kinds, *behind), work(ONES, ODD, tuple(kinds), *behind))
            self.assertEqual(best_checks(ONES, 2, kinds, 1, how), best_checks(ONES, 2, tuple(kinds), 1, how))
        self.assertEqual((pairs, hits, kinds), before)

    def test_papers_are_tuples(self):
        clean, dear = clean_paper(ONES), rate_paper(ONES, (1, 2))
        self.assertEqual((clean_paper_holds(ONES, clean), rate_paper_holds(ONES, (1, 2), dear)), (True, True))
        self.assertIs(clean_paper_holds(ONES, list(clean)), False)
        self.assertIs(rate_paper_holds(ONES, (1, 2), list(dear)), False)
        self.assertIs(rate_paper_holds(ONES, (1, 2), tuple(list(entry) for entry in dear)), False)

    def test_rules_stay(self):
        rule = Rule("01110", [("11", "0"), ("001", "1")])
        before = vars(rule).copy()
        for work in [is_clean, spoiled, clean_paper, rate]:
            work(rule)
        clean_paper_holds(rule, ("",)), most_put(rule, 5), all_put(rule, 5), rate_paper(rule, (3, 1))
        parting(rule, ONES), parting(ONES, rule), shifts(rule, ["turn"])
        check = Check("111", "01")
        for how in ["same", "shift", "cut", "any"]:
            first_unseen(rule, check, ["turn"], 1, how), example(rule, check, ["turn"], 1, how)
            count_unseen(rule, check, ["turn"], 3, 1, how), unseen_sizes(rule, check, ["turn"], 1, how, 3)
            best_checks(rule, 2, ["turn"], 1, how)
        live = Live(rule, check)
        live.several(["011", "1001110"])
        live.change(ONES)
        live.undo()
        self.assertEqual(vars(rule), before)
        self.assertEqual(vars(check), {"poly": "111", "start": "01"})


class Objects(unittest.TestCase):
    def test_equal_to_nothing_of_another_class(self):
        class Everything:
            def __eq__(self, other):
                return True

        for value in [ONES, Rule("11"), ODD, Check()]:
            for other in any_values() + [str(value), (value,), object(), Everything()]:
                if other.__class__ is not value.__class__:
                    self.assertIs(value == other, False)
                    self.assertIs(value != other, True)

    def test_alike_in_both_classes(self):
        self.assertFalse(Rule("11") == Check("11"))
        self.assertFalse(Check("11") == Rule("11"))

    def test_not_iterable(self):
        for value in [ONES, Rule("11"), ODD, Check(), Live(ONES, ODD), Desk()]:
            self.assertRaises(TypeError, iter, value)
            self.assertRaises(TypeError, list, value)
            with self.assertRaises(TypeError):
                "11" in value


class Names(unittest.TestCase):
    def test_arguments_by_name(self):
        self.assertEqual(Rule(stuffs=[("11", "0")], flag="01110"), ONES)
        self.assertEqual(Rule(flag="01110").stuffs, ())
        self.assertEqual(Rule.read(text="flag 01110 put 11:0"), ONES)
        self.assertEqual(ONES.put(line="11"), "0")
        self.assertEqual(Check(start="110", poly="1011"), Check("1011", "110"))
        self.assertEqual(Check(poly="11"), ODD)
        self.assertEqual(Check.read(text="11 start 0"), ODD)
        self.assertEqual((ODD.rest(bits="1"), ODD.bits_for(data="1"), ODD.is_good(message="11")), ("1", "1", True))
        self.assertEqual((body(message="11", rule=ONES), taken_out(line="110", rule=ONES)), ("110", "11"))
        self.assertEqual(send(data="1", check=ODD, rule=ONES), "11001110")
        self.assertEqual(receive(raw="11001110", check=ODD, rule=ONES), ("good", "1"))
        self.assertEqual(frames(raw="11001110", check=ODD, rule=ONES), (("good", "1"),))

    def test_arguments_of_nets_by_name(self):
        least = Rule("11", [("1", "0")])
        self.assertEqual((is_clean(rule=ONES), spoiled(rule=ONES), flag_at(message="11", rule=ONES)), (True, None, 3))
        self.assertTrue(clean_paper_holds(value=clean_paper(rule=least), rule=least))
        self.assertEqual((most_put(size=5, rule=ONES), dearest(size=5, rule=ONES)), (2, "01111"))
        self.assertEqual((all_put(size=2, rule=ONES), rate(rule=ONES)), (1, (1, 2)))
        self.assertTrue(rate_paper_holds(paper=rate_paper(value=(1, 2), rule=ONES), value=(1, 2), rule=ONES))
        self.assertEqual((alike(q=ONES, p=ONES), parting(q=ONES, p=least)), (True, "1"))
        self.assertEqual(could_be(pairs=[("11", "110")], size=2, flag="01110"), ("flag 01110 put 11:0",))
        self.assertEqual((hit(hits=[(0, "lose")], line="01"), shifts(kinds=["turn"], rule=Rule("01110"))), ("1", (0,)))

    def test_arguments_of_unseen_and_best_by_name(self):
        given = {"how": "same", "hits": 1, "kinds": ["turn"], "check": Check(), "rule": ONES}
        self.assertEqual((first_unseen(**given), count_unseen(size=1, **given)), (1, 2))
        self.assertEqual((len(example(**given)[0]), unseen_sizes(most=2, **given)), (1, (1, 2)))
        self.assertEqual(clean_rules(size=1, flag="11"), ("flag 11 put 1:0",))
        self.assertEqual(cheapest(size=1, flag="11"), ("flag 11 put 1:0",))
        self.assertEqual(best_checks(how="same", hits=1, kinds=["turn"], degree=1, rule=ONES), ("11",))

    def test_arguments_of_live_and_desk_by_name(self):
        live = Live(check=ODD, rule=ONES)
        self.assertEqual((live.hear(bits="01110"), live.several(words=["0", "01110"])), ((), ((), (("good", ""),))))
        self.assertIsNone(live.change(rule=Rule("11")))
        self.assertEqual(live.within(work=len), 3)
        self.assertEqual(Desk().say(command="rule flag 11"), "spoiled")


if __name__ == "__main__":
    unittest.main()
