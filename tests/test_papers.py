"""Papers [25]: weaker rules and their papers, and papers of wires."""

import unittest

from tests.helper import any_things, BOUNDS, LEAST, lonely_ticks, pass_ticks, rule_of, told, wires_of
from tests.oracle import is_so
from tests.walks import NAMES, walked
from wirenames.errors import NoBounds, NoHand, NoLess, NoName, NoPaper, NoRule, NoSaying, NoScript, NotOn
from wirenames.looker import holds
from wirenames.papers import known_paper, one_paper, weaker_paper, weaker_rule
from wirenames.rules import Bounds, Rule, fits, is_enough, least_rule
from wirenames.scripts import gone_along

ALL_BOUNDS = [Bounds(lost=lost, late=late) for lost in range(4) for late in range(1, 6)]
GAPS = range(1, 6)
WORDS = ("probes", "repeats", "wait")
FIELDS = ("probes", "gap", "wait", "repeats", "period", "life")


def parts(rule):
    return tuple(getattr(rule, field) for field in FIELDS)


def all_weaker():
    """All bounds, gaps and words of which there is a weaker rule."""
    for bounds in ALL_BOUNDS:
        for gap in GAPS:
            for word in WORDS:
                if bounds.lost > 0 or word != "repeats":
                    yield bounds, gap, word


class WeakerRules(unittest.TestCase):
    def test_one_less_of_that_and_else_as_it_is(self):
        for bounds, gap, word in all_weaker():
            least = least_rule(bounds, gap=gap)
            wanted = dict(zip(FIELDS, parts(least), strict=True))
            wanted[word] -= 1
            weaker = weaker_rule(bounds, word, gap=gap)
            self.assertIs(type(weaker), Rule)
            self.assertEqual(weaker, Rule(**wanted))
            self.assertTrue(fits(bounds, weaker))
            self.assertFalse(is_enough(bounds, weaker))

    def test_in_numbers(self):
        self.assertEqual(repr(LEAST), "Rule(2 1 5 1 8 12)")
        self.assertEqual(repr(weaker_rule(BOUNDS, "probes")), "Rule(1 1 5 1 8 12)")
        self.assertEqual(repr(weaker_rule(BOUNDS, "repeats")), "Rule(2 1 5 0 8 12)")
        self.assertEqual(repr(weaker_rule(BOUNDS, "wait")), "Rule(2 1 4 1 8 12)")
        self.assertEqual(repr(weaker_rule(BOUNDS, "wait", gap=3)), "Rule(2 3 6 1 12 20)")
        self.assertEqual(repr(weaker_rule(Bounds(lost=0, late=1), "probes")), "Rule(0 1 2 0 4 4)")

    def test_gap_is_one_where_none_is_told(self):
        for word in WORDS:
            self.assertEqual(weaker_rule(BOUNDS, word), weaker_rule(BOUNDS, word, gap=1))
            self.assertEqual(weaker_paper(BOUNDS, word), weaker_paper(BOUNDS, word, gap=1))
            self.assertEqual(weaker_rule(word=word, bounds=BOUNDS), weaker_rule(BOUNDS, word))
            self.assertEqual(weaker_paper(word=word, bounds=BOUNDS), weaker_paper(BOUNDS, word))

    def test_gap_is_handed_in_by_name(self):
        for call in (weaker_rule, weaker_paper):
            with self.assertRaises(TypeError):
                call(BOUNDS, "wait", 1)


class WeakerPapers(unittest.TestCase):
    def test_the_looker_lets_them_by(self):
        for bounds, gap, word in all_weaker():
            paper = weaker_paper(bounds, word, gap=gap)
            self.assertIs(type(paper), tuple)
            self.assertEqual(paper[0], "two")
            self.assertEqual(paper[1], (bounds.lost, bounds.late))
            self.assertEqual(paper[2], parts(weaker_rule(bounds, word, gap=gap)))
            self.assertIs(type(paper[3]), list)
            self.assertLessEqual(len(paper[3]), 2000)
            self.assertLessEqual({call[0] for call in paper[3]}, {"come", "claim", "tick", "hand over", "lose"})
            self.assertIs(holds(paper), True, (bounds, gap, word))
            self.assertTrue(is_so(paper), (bounds, gap, word))

    def test_the_least_rule_does_not_lead_there(self):
        for bounds, gap, word in all_weaker():
            paper = weaker_paper(bounds, word, gap=gap)
            least = least_rule(bounds, gap=gap)
            try:
                wires = gone_along(bounds, least, paper[3])
            except NoScript as refusal:
                # Where it can't be gone along any more, it is so behind what stands ahead of that place.
                wires = gone_along(bounds, least, paper[3][: refusal.at])
            self.assertEqual(wires.doubles(), [])
            self.assertIs(holds(("one", paper[1], parts(least), wires.script())), True)
            self.assertIs(holds((*paper[:2], parts(least), *paper[3:])), False)

    def test_the_paper_is_the_askers_own(self):
        first = weaker_paper(BOUNDS, "wait")
        first[3].clear()
        self.assertIs(holds(weaker_paper(BOUNDS, "wait")), True)
        self.assertEqual(weaker_paper(BOUNDS, "wait"), weaker_paper(BOUNDS, "wait"))


class RefusedWords(unittest.TestCase):
    def refused(self, refusal, *given, **by_name):
        for call in (weaker_rule, weaker_paper):
            with self.assertRaises(refusal) as caught:
                call(*given, **by_name)
            self.assertIs(type(caught.exception), refusal)

    def test_no_less(self):
        for late in range(1, 6):
            for gap in GAPS:
                self.refused(NoLess, Bounds(lost=0, late=late), "repeats", gap=gap)

    def test_no_saying_of_any_other_thing(self):
        texts = ["gap", "period", "life", "Probes", "probe", "repeats ", " wait", "probes wait"]
        for thing in any_things() + texts + [["wait"], ("wait",), 0, 1]:
            self.refused(NoSaying, BOUNDS, thing)
            self.refused(NoSaying, Bounds(lost=0, late=1), thing)

    def test_no_bounds_first(self):
        for thing in [thing for thing in any_things() if not isinstance(thing, Bounds)] + [(1, 2), 1, "Bounds(1 2)"]:
            self.refused(NoBounds, thing, "wait")
            self.refused(NoBounds, thing, thing, gap=thing)

    def test_no_rule_where_gap_is_no_gap_then(self):
        for thing in any_things() + [0, 6, "1", [1], (1,)]:
            self.refused(NoRule, BOUNDS, "wait", gap=thing)
            self.refused(NoRule, BOUNDS, thing, gap=thing)
            self.refused(NoRule, Bounds(lost=0, late=1), "repeats", gap=thing)


def clashing():
    """Wires on which two hold one name, without any joining."""
    wires = wires_of(2, bounds=Bounds(lost=0, late=1), rule=rule_of(probes=0, period=9, life=9))
    wires.claim(0, "a", 5)
    wires.claim(1, "a", 6)
    wires.tick()
    return wires


class OnePapers(unittest.TestCase):
    def test_of_new_wires(self):
        self.assertEqual(one_paper(wires_of()), ("one", (1, 2), (2, 1, 5, 1, 8, 12), []))

    def test_of_wires(self):
        wires = wires_of(2)
        wires.claim(0, "a", 7, tries=3)
        pass_ticks(wires, 9)
        paper = one_paper(wires)
        self.assertEqual(paper, ("one", (1, 2), (2, 1, 5, 1, 8, 12), wires.script()))
        self.assertIs(type(paper[3]), list)
        self.assertIs(holds(paper), True)

    def test_no_paper_where_two_hold(self):
        with self.assertRaises(NoPaper):
            one_paper(clashing())

    def test_no_paper_where_two_held_at_some_time(self):
        for deed in (
            lambda wires: wires.drop(0, "a"),
            lambda wires: wires.go(1),
            lambda wires: wires.part(0, [0], 1),
            lambda wires: pass_ticks(wires, 3),
        ):
            wires = clashing()
            deed(wires)
            self.assertEqual(wires.doubles(), [])
            with self.assertRaises(NoPaper):
                one_paper(wires)

    def test_two_on_two_wires_till_they_are_joined(self):
        wires = wires_of(1)
        wires.come(1, 1)
        wires.claim(0, "a", 5)
        wires.claim(1, "a", 5)
        lonely_ticks(wires, 20)
        self.assertEqual(wires.who_holds("a"), [(0, 0), (1, 1)])
        self.assertIs(holds(one_paper(wires)), True)
        wires.meet(0, 1)
        with self.assertRaises(NoPaper):
            one_paper(wires)

    def test_two_thousand_calls(self):
        wires = wires_of(1)
        lonely_ticks(wires, 1999)
        self.assertEqual(len(one_paper(wires)[3]), 2000)
        self.assertIs(holds(one_paper(wires)), True)

    def test_wires_stay_and_the_paper_is_the_askers_own(self):
        wires, _, _ = walked(1, 100)
        before = told(wires)
        paper = one_paper(wires)
        self.assertEqual(told(wires), before)
        script = list(paper[3])
        paper[3].clear()
        self.assertEqual(told(wires), before)
        self.assertEqual(one_paper(wires)[3], script)

    def test_what_is_done_later_changes_no_paper(self):
        wires = wires_of(1)
        paper = one_paper(wires)
        wires.tick()
        self.assertEqual(paper[3], [("come", 0, 0)])

    def test_refused_the_wires_stay(self):
        wires = clashing()
        before = told(wires)
        with self.assertRaises(NoPaper):
            one_paper(wires)
        self.assertEqual(told(wires), before)


def knowing():
    """Wires on which hand 0 holds `a`, hand 1 knows it, and hand 2 has come too late to hear of it."""
    wires = wires_of(2)
    wires.claim(0, "a", 7)
    pass_ticks(wires, 9)
    wires.come(2, 0)
    return wires


class KnownPapers(unittest.TestCase):
    def test_of_wires(self):
        wires = knowing()
        self.assertEqual(wires.now(), 9)
        # The letter `hold` was sent at tick 7, heard at tick 8, and may have been two ticks late.
        paper = known_paper(wires, 1, "a")
        self.assertEqual(paper, ("known", (1, 2), (2, 1, 5, 1, 8, 12), wires.script(), 1, "a", 3, 0, 7))
        self.assertIs(type(paper[3]), list)
        self.assertIs(holds(paper), True)

    def test_by_names(self):
        wires = knowing()
        self.assertEqual(known_paper(name="a", hand=1, wires=wires), known_paper(wires, 1, "a"))
        self.assertEqual(one_paper(wires=wires), one_paper(wires))

    def test_as_long_as_it_is_known(self):
        wires = knowing()
        wires.go(0)
        lonely_ticks(wires, 11)
        self.assertEqual(known_paper(wires, 1, "a")[6], 14)
        self.assertIs(holds(known_paper(wires, 1, "a")), True)
        wires.tick()
        with self.assertRaises(NoPaper):
            known_paper(wires, 1, "a")

    def refused(self, refusal, wires, hand, name):
        before = told(wires)
        with self.assertRaises(refusal) as caught:
            known_paper(wires, hand, name)
        self.assertIs(type(caught.exception), refusal)
        self.assertEqual(told(wires), before)
        return caught.exception

    def test_no_paper(self):
        wires = knowing()
        self.refused(NoPaper, wires, 0, "a")
        self.refused(NoPaper, wires, 2, "a")
        self.refused(NoPaper, wires, 1, "b")
        self.refused(NoPaper, wires, 0, "b")

    def test_no_paper_of_what_it_comes_to_hold_itself(self):
        wires = knowing()
        self.assertIs(holds(known_paper(wires, 1, "a")), True)
        wires.part(0, [1], 2)
        wires.claim(1, "a", 1)
        lonely_ticks(wires, 6)
        self.assertIs(holds(known_paper(wires, 1, "a")), True)
        wires.tick()
        self.assertEqual(wires.known_of(1, "a"), (1, 1, 0))
        self.refused(NoPaper, wires, 1, "a")

    def test_the_brackets_order(self):
        wires = knowing()
        for thing in any_things() + [8, "1"]:
            self.assertEqual(self.refused(NoHand, wires, thing, thing).hand, thing)
            self.assertEqual(self.refused(NotOn, wires, 5, thing).hand, 5)
            self.refused(NoName, wires, 1, thing)
            self.refused(NoName, wires, 0, thing)
        self.assertEqual(self.refused(NotOn, wires, 5, "a").hand, 5)

    def test_the_paper_is_the_askers_own(self):
        wires = knowing()
        before = told(wires)
        known_paper(wires, 1, "a")[3].clear()
        self.assertEqual(told(wires), before)
        self.assertIs(holds(known_paper(wires, 1, "a")), True)


class PapersOfChance(unittest.TestCase):
    def test_papers_of_wires_are_let_by(self):
        many = {"one": 0, "no one": 0, "known": 0, "no known": 0}
        for seed in range(600, 700):
            wires, _, _ = walked(seed, 120, hasty=seed % 4 == 0)
            before = told(wires)
            try:
                self.assertTrue(is_so(one_paper(wires)))
                many["one"] += 1
            except NoPaper:
                many["no one"] += 1
            for hand in [hand for wire in range(4) for hand in wires.hands_on(wire)]:
                for name in NAMES:
                    entry = wires.known_of(hand, name)
                    if entry is None or entry[0] == hand:
                        with self.assertRaises(NoPaper):
                            known_paper(wires, hand, name)
                        many["no known"] += 1
                    else:
                        paper = known_paper(wires, hand, name)
                        self.assertEqual(paper[4:], (hand, name, entry[2], entry[0], entry[1]))
                        self.assertTrue(holds(paper) and is_so(paper))
                        many["known"] += 1
            self.assertEqual(told(wires), before)
        for kind, count in many.items():
            self.assertGreater(count, 10, kind)

    def test_one_is_told_just_where_no_two_ever_held(self):
        for seed in range(700, 760):
            wires, bounds, rule = walked(seed, 60, hasty=True)
            script = wires.script()
            cuts = [gone_along(bounds, rule, script[:cut]) for cut in range(len(script) + 1)]
            if any(half.doubles() for half in cuts):
                with self.assertRaises(NoPaper):
                    one_paper(wires)
            else:
                self.assertEqual(one_paper(wires)[3], script)


if __name__ == "__main__":
    unittest.main()
