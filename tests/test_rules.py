"""Bounds [6], rules [7], their times, fits, enough and the least rule [8]."""

import unittest

from tests import helper
from wirenames.errors import NoBounds, NoRule
from wirenames.rules import (
    Bounds,
    Rule,
    asking_time,
    claiming_time,
    fits,
    is_enough,
    least_rule,
    mending_time,
)

FIELDS = ("probes", "gap", "wait", "repeats", "period", "life")
PLAIN = {"probes": 2, "gap": 3, "wait": 7, "repeats": 1, "period": 150, "life": 200}

# For each field its ends; the other fields stay as in PLAIN.
ENDS = {
    "probes": (0, 9),
    "gap": (1, 5),
    "wait": (0, 99),
    "repeats": (0, 9),
    "period": (12, 400),
    "life": (1, 400),
}
ALL_BOUNDS = [(lost, late) for lost in range(4) for late in range(1, 6)]


def rule_with(**changed):
    return Rule(**{**PLAIN, **changed})


class TheBounds(unittest.TestCase):
    def test_fields_and_defaults(self):
        self.assertEqual((Bounds().lost, Bounds().late), (1, 2))
        for lost, late in ALL_BOUNDS:
            bounds = Bounds(lost=lost, late=late)
            self.assertEqual((bounds.lost, bounds.late), (lost, late))
        self.assertEqual(Bounds(lost=3), Bounds(lost=3, late=2))
        self.assertEqual(Bounds(late=5), Bounds(lost=1, late=5))

    def test_beyond_their_ends(self):
        for wrong in ({"lost": -1}, {"lost": 4}, {"late": 0}, {"late": 6}, {"lost": 4, "late": 0}):
            with self.assertRaises(NoBounds):
                Bounds(**wrong)

    def test_things_that_are_no_whole_numbers(self):
        for thing in helper.any_things():
            with self.assertRaises(NoBounds):
                Bounds(lost=thing)
            with self.assertRaises(NoBounds):
                Bounds(late=thing)

    def test_only_by_name(self):
        with self.assertRaises(TypeError):
            Bounds(1, 2)

    def test_repr_and_str(self):
        self.assertEqual(repr(Bounds(lost=0, late=5)), "Bounds(0 5)")
        self.assertEqual(str(Bounds(lost=3, late=1)), "Bounds(3 1)")
        self.assertEqual(f"{Bounds()}", "Bounds(1 2)")

    def test_same_where_both_numbers_are(self):
        for one in ALL_BOUNDS:
            for two in ALL_BOUNDS:
                first = Bounds(lost=one[0], late=one[1])
                second = Bounds(lost=two[0], late=two[1])
                self.assertIs(first == second, one == two)
                self.assertIs(first != second, one != two)


class TheRules(unittest.TestCase):
    def test_fields(self):
        rule = rule_with()
        for field in FIELDS:
            self.assertEqual(getattr(rule, field), PLAIN[field])

    def test_the_gap_is_one_where_none_is_told(self):
        self.assertEqual(Rule(probes=1, wait=0, repeats=0, period=2, life=1).gap, 1)

    def test_all_others_must_be_told_and_by_name(self):
        for field in FIELDS:
            if field != "gap":
                with self.assertRaises(TypeError):
                    Rule(**{key: PLAIN[key] for key in PLAIN if key != field})
        with self.assertRaises(TypeError):
            Rule(2, 3, 7, 1, 150, 200)

    def test_both_ends_and_just_beyond(self):
        for field, (low, high) in ENDS.items():
            for worth in (low, high):
                self.assertEqual(getattr(rule_with(**{field: worth}), field), worth)
            for worth in (low - 1, high + 1):
                with self.assertRaises(NoRule):
                    rule_with(**{field: worth})
        self.assertEqual(Rule(probes=0, gap=1, wait=0, repeats=0, period=2, life=1).period, 2)

    def test_things_that_are_no_whole_numbers(self):
        for field in FIELDS:
            for thing in helper.any_things():
                with self.assertRaises(NoRule):
                    rule_with(**{field: thing})

    def test_the_least_period_and_one_less(self):
        for probes in range(10):
            for gap in range(1, 6):
                for wait in (0, 1, 50, 99):
                    time = wait + (gap * (probes - 1) if probes else 0)
                    rule = Rule(probes=probes, gap=gap, wait=wait, repeats=0, period=time + 2, life=1)
                    self.assertEqual(claiming_time(rule), time)
                    with self.assertRaises(NoRule):
                        Rule(probes=probes, gap=gap, wait=wait, repeats=0, period=time + 1, life=1)

    def test_a_period_of_one_is_never_enough(self):
        with self.assertRaises(NoRule):
            Rule(probes=0, gap=1, wait=0, repeats=0, period=1, life=1)

    def test_repr_and_str(self):
        self.assertEqual(repr(rule_with()), "Rule(2 3 7 1 150 200)")
        self.assertEqual(str(rule_with(probes=0)), "Rule(0 3 7 1 150 200)")
        self.assertEqual(f"{rule_with(life=400)}", "Rule(2 3 7 1 150 400)")

    def test_same_where_all_six_are(self):
        self.assertIs(rule_with() == rule_with(), True)
        self.assertIs(rule_with() != rule_with(), False)
        for field in FIELDS:
            other = rule_with(**{field: PLAIN[field] + 1})
            self.assertIs(rule_with() == other, False, field)
            self.assertIs(rule_with() != other, True, field)


class NothingElseIsTheSame(unittest.TestCase):
    def test_other_things(self):
        bounds = Bounds(lost=1, late=2)
        rule = rule_with()
        numbers = [2, 3, 7, 1, 150, 200]
        things = helper.STRANGE + helper.LONG
        things += [(1, 2), [1, 2], numbers, tuple(numbers), repr(bounds), repr(rule), 1, 2]
        for thing in things:
            for own in (bounds, rule):
                self.assertIs(own == thing, False)
                self.assertIs(thing == own, False)
                self.assertIs(own != thing, True)
                self.assertIs(thing != own, True)

    def test_bounds_and_rules(self):
        self.assertIs(Bounds() == rule_with(), False)
        self.assertIs(rule_with() == Bounds(), False)
        self.assertIs(Bounds() != rule_with(), True)
        self.assertIs(rule_with() != Bounds(), True)


class Times(unittest.TestCase):
    def test_claiming_time(self):
        self.assertEqual(claiming_time(rule_with(probes=4, gap=3, wait=7)), 16)
        self.assertEqual(claiming_time(rule_with(probes=1, gap=5, wait=7)), 7)
        self.assertEqual(claiming_time(rule_with(probes=1, gap=5, wait=0)), 0)

    def test_claiming_time_without_probes(self):
        self.assertEqual(claiming_time(rule_with(probes=0, gap=5, wait=7)), 7)
        self.assertEqual(claiming_time(rule_with(probes=0, gap=5, wait=0)), 0)

    def test_asking_time(self):
        self.assertEqual(asking_time(Bounds(lost=0, late=5), rule_with(repeats=4, gap=3)), 34)
        self.assertEqual(asking_time(Bounds(lost=3, late=1), rule_with(repeats=0, gap=3)), 2)

    def test_mending_time(self):
        rule = rule_with(probes=2, gap=3, wait=7, period=100)
        self.assertEqual(mending_time(Bounds(lost=2, late=5), rule), 10 + 300 + 5)
        self.assertEqual(mending_time(Bounds(lost=0, late=1), rule), 10 + 100 + 1)

    def test_fits_from_twice_the_asking_time_on(self):
        bounds = Bounds(lost=3, late=5)
        for repeats in range(10):
            for gap in range(1, 6):
                twice = 2 * (10 + 2 * repeats * gap)
                self.assertIs(fits(bounds, rule_with(repeats=repeats, gap=gap, life=twice)), True)
                self.assertIs(fits(bounds, rule_with(repeats=repeats, gap=gap, life=twice - 1)), False)

    def test_enough_and_one_less_of_each(self):
        bounds = Bounds(lost=2, late=3)
        plain = {"probes": 3, "gap": 2, "wait": 10, "repeats": 2, "period": 50, "life": 28}
        self.assertIs(is_enough(bounds, Rule(**plain)), True)
        for field in ("probes", "wait", "repeats", "life"):
            less = Rule(**{**plain, field: plain[field] - 1})
            self.assertIs(is_enough(bounds, less), False, field)
        for field in ("probes", "wait", "period", "life"):
            more = Rule(**{**plain, field: plain[field] + 1})
            self.assertIs(is_enough(bounds, more), True, field)
        self.assertIs(is_enough(bounds, Rule(**{**plain, "repeats": 3, "life": 36})), True)
        self.assertIs(is_enough(bounds, Rule(**{**plain, "repeats": 3, "life": 35})), False)

    def test_a_rule_without_probes_is_never_enough(self):
        rule = Rule(probes=0, gap=1, wait=99, repeats=9, period=101, life=400)
        self.assertIs(is_enough(Bounds(lost=0, late=1), rule), False)


class TheLeastRule(unittest.TestCase):
    def test_for_every_bounds_and_gap(self):
        for lost, late in ALL_BOUNDS:
            for gap in range(1, 6):
                bounds = Bounds(lost=lost, late=late)
                rule = least_rule(bounds, gap=gap)
                wait = 2 * late + lost * gap
                self.assertEqual(rule.probes, lost + 1)
                self.assertEqual(rule.gap, gap)
                self.assertEqual(rule.wait, wait)
                self.assertEqual(rule.repeats, lost)
                self.assertEqual(rule.period, lost * gap + wait + 2)
                self.assertEqual(rule.life, 2 * (2 * late + 2 * lost * gap))
                self.assertIs(is_enough(bounds, rule), True)

    def test_the_gap_is_one_where_none_is_told(self):
        self.assertEqual(repr(least_rule(Bounds(lost=1, late=2))), "Rule(2 1 5 1 8 12)")
        self.assertEqual(least_rule(Bounds()), least_rule(bounds=Bounds(), gap=1))

    def test_the_gap_is_handed_in_by_name(self):
        with self.assertRaises(TypeError):
            least_rule(Bounds(), 1)

    def test_no_gap(self):
        for thing in helper.any_things() + [0, 6]:
            with self.assertRaises(NoRule):
                least_rule(Bounds(), gap=thing)


class Refused(unittest.TestCase):
    def test_no_bounds_first_then_no_rule(self):
        others = helper.STRANGE + helper.LONG + [0, 1]
        for call in (asking_time, mending_time, fits, is_enough):
            for thing in others + [rule_with()]:
                with self.assertRaises(NoBounds):
                    call(thing, rule_with())
                with self.assertRaises(NoBounds):
                    call(thing, thing)
            for thing in others + [Bounds()]:
                with self.assertRaises(NoRule):
                    call(Bounds(), thing)
            with self.assertRaises(NoBounds):
                call(rule_with(), Bounds())

    def test_claiming_time(self):
        for thing in helper.STRANGE + helper.LONG + [Bounds(), (2, 3, 7, 1, 150, 200)]:
            with self.assertRaises(NoRule):
                claiming_time(thing)

    def test_least_rule(self):
        for thing in helper.STRANGE + helper.LONG + [rule_with(), (1, 2)]:
            with self.assertRaises(NoBounds):
                least_rule(thing)
            with self.assertRaises(NoBounds):
                least_rule(thing, gap=0)

    def test_by_name(self):
        self.assertEqual(asking_time(rule=rule_with(), bounds=Bounds()), 10)
        self.assertEqual(claiming_time(rule=rule_with()), 10)


if __name__ == "__main__":
    unittest.main()
