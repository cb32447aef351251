"""Refusals [2]: of any thing, in their order, and nothing is changed by them."""

import unittest

from tests.helper import (
    any_things,
    BOUNDS,
    BOUNDS_AND_RULES,
    LEAST,
    LONG,
    pass_ticks,
    rule_of,
    STRANGE,
    told,
    wires_of,
)
from wirenames.errors import (
    Came,
    Claimed,
    Early,
    IsOn,
    NoBounds,
    NoClaim,
    NoHand,
    NoHands,
    NoLetter,
    NoMark,
    NoName,
    NoRule,
    NotEmpty,
    NotOn,
    NoTries,
    NoWire,
    Owed,
    SameWire,
    TooMany,
)
from wirenames.rules import Bounds, Rule
from wirenames.wires import Wires


def busy():
    """Wires on which hands 0, 1 and 2 stand on wire 0, with a bit of everything."""
    wires = wires_of(3, rule=rule_of(probes=2, wait=1, repeats=1, period=9, life=12))
    wires.come(4, 1)
    wires.claim(1, "a", 5, tries=2)
    wires.ask(1, "b")
    pass_ticks(wires, 5)
    wires.claim(0, "b", 1)
    wires.claim(0, "c", 1)
    wires.claim(0, "x", 1)
    wires.ask_all(2)
    wires.ask(2, "b2")
    wires.tick()
    old = [row[0] for row in wires.way() if row[7] < wires.now()]
    wires.hand_over(old[0], keep=True)
    return wires


NO_NAMES = any_things() + [1, "a1", "abcdefghi", ["a"], ("a",)]
HANDS_BEYOND = any_things() + [8, [1], (1,), "1"]
WIRES_BEYOND = any_things() + [4, [1], (1,), "1"]
MARKS_BEYOND = any_things() + [1000, [1], "5"]
TRIES_BEYOND = any_things() + [0, 10, [1], "5"]


class Checked(unittest.TestCase):
    def setUp(self):
        self.wires = busy()
        self.before = told(self.wires)

    def refused(self, refusal, call, *given, **by_name):
        with self.assertRaises(refusal) as caught:
            call(*given, **by_name)
        self.assertIs(type(caught.exception), refusal)
        return caught.exception

    def tearDown(self):
        self.assertEqual(told(self.wires), self.before)


class AnyThing(Checked):
    def test_no_hand(self):
        wires = self.wires
        for thing in HANDS_BEYOND:
            for call, rest in (
                (wires.come, (3,)),
                (wires.go, ()),
                (wires.claim, ("d", 5)),
                (wires.drop, ("a",)),
                (wires.ask, ("a",)),
                (wires.ask_all, ()),
                (wires.claims_of, ()),
                (wires.known_of, ("a",)),
                (wires.all_known, ()),
                (wires.asking_of, ("a",)),
            ):
                refusal = self.refused(NoHand, call, thing, *rest)
                self.assertEqual(refusal.hand, thing)
                self.assertIs(type(refusal.hand), type(thing))

    def test_not_on(self):
        wires = self.wires
        for call, rest in (
            (wires.go, ()),
            (wires.claim, ("d", 5)),
            (wires.drop, ("a",)),
            (wires.ask, ("a",)),
            (wires.ask_all, ()),
            (wires.claims_of, ()),
            (wires.known_of, ("a",)),
            (wires.all_known, ()),
            (wires.asking_of, ("a",)),
        ):
            for hand in (3, 5, 6, 7):
                self.assertEqual(self.refused(NotOn, call, hand, *rest).hand, hand)

    def test_no_wire(self):
        wires = self.wires
        for thing in WIRES_BEYOND:
            for call, given in (
                (wires.come, (3, thing)),
                (wires.meet, (thing, 1)),
                (wires.meet, (1, thing)),
                (wires.part, (thing, [0], 1)),
                (wires.part, (0, [0], thing)),
                (wires.hands_on, (thing,)),
            ):
                refusal = self.refused(NoWire, call, *given)
                self.assertEqual(refusal.wire, thing)
                self.assertIs(type(refusal.wire), type(thing))

    def test_no_name(self):
        wires = self.wires
        for thing in NO_NAMES:
            self.refused(NoName, wires.claim, 1, thing, 5)
            self.refused(NoName, wires.drop, 1, thing)
            self.refused(NoName, wires.ask, 1, thing)
            self.refused(NoName, wires.who_holds, thing)
            self.refused(NoName, wires.known_of, 1, thing)
            self.refused(NoName, wires.asking_of, 1, thing)

    def test_no_mark(self):
        for thing in MARKS_BEYOND:
            self.refused(NoMark, self.wires.claim, 1, "d", thing)

    def test_no_tries(self):
        for thing in TRIES_BEYOND:
            self.refused(NoTries, self.wires.claim, 1, "d", 5, tries=thing)

    def test_no_hands(self):
        for thing in any_things() + [(0, 1), "01", [0, 0], [True], [8], [3], [0, 4]]:
            # Of all these things a list of hand 0 alone is one that may be parted off.
            if thing != [0]:
                self.refused(NoHands, self.wires.part, 0, thing, 3)

    def test_no_letter(self):
        for thing in any_things() + [[0], "0", 999]:
            for call in (self.wires.hand_over, self.wires.lose):
                refusal = self.refused(NoLetter, call, thing)
                self.assertEqual(refusal.number, thing)
                self.assertIs(type(refusal.number), type(thing))
            self.refused(NoLetter, self.wires.hand_over, thing, keep=True)

    def test_a_field_keeps_no_list_that_was_handed_in(self):
        thing = [[1], 2]
        refusals = [
            self.refused(NoHand, self.wires.go, thing).hand,
            self.refused(NoWire, self.wires.hands_on, thing).wire,
            self.refused(NoLetter, self.wires.lose, thing).number,
        ]
        thing[0].append(3)
        self.assertEqual(refusals, [[[1], 2]] * 3)

    def test_no_bounds_and_no_rule(self):
        things = STRANGE + LONG + [0, (1, 2), (2, 1, 5, 1, 8, 12), repr(BOUNDS), repr(LEAST)]
        for thing in things + [LEAST]:
            self.refused(NoBounds, Wires, thing, LEAST)
            self.refused(NoBounds, Wires, thing, thing)
        for thing in things + [BOUNDS]:
            self.refused(NoRule, Wires, BOUNDS, thing)
        self.refused(NoBounds, Wires, *reversed(BOUNDS_AND_RULES))

    def test_a_rule_that_doesnt_fit(self):
        for life, good in ((12, True), (11, False), (1, False)):
            rule = Rule(probes=2, gap=1, wait=5, repeats=1, period=8, life=life)
            if good:
                Wires(BOUNDS, rule)
            else:
                self.refused(NoRule, Wires, BOUNDS, rule)
        Wires(Bounds(lost=3, late=1), rule_of(probes=0, repeats=0, life=4))
        self.refused(NoRule, Wires, Bounds(lost=3, late=1), rule_of(probes=0, repeats=0, life=3))


class TrueIsNoOne(unittest.TestCase):
    def test_where_one_and_nought_stand(self):
        wires = wires_of(2, rule=rule_of(probes=1, wait=9))
        wires.claim(0, "a", 5)
        wires.claim(1, "b", 5)
        wires.tick()
        before = told(wires)
        for truth in (True, False):
            for refusal, call, given in (
                (NoHand, wires.go, (truth,)),
                (NoHand, wires.come, (truth, 1)),
                (NoHand, wires.ask_all, (truth,)),
                (NoHand, wires.claims_of, (truth,)),
                (NoHand, wires.known_of, (truth, "a")),
                (NoHand, wires.drop, (truth, "a")),
                (NoWire, wires.hands_on, (truth,)),
                (NoWire, wires.meet, (truth, 2)),
                (NoWire, wires.meet, (2, truth)),
                (NoWire, wires.come, (2, truth)),
                (NoWire, wires.part, (truth, [0], 2)),
                (NoWire, wires.part, (0, [0], truth)),
                (NoHands, wires.part, (0, [truth], 1)),
                (NoLetter, wires.hand_over, (truth,)),
                (NoLetter, wires.lose, (truth,)),
                (NoMark, wires.claim, (0, "d", truth)),
            ):
                with self.assertRaises(refusal):
                    call(*given)
            with self.assertRaises(NoTries):
                wires.claim(0, "d", 5, tries=truth)
        self.assertEqual(told(wires), before)


class TheFirstInTheBrackets(Checked):
    """Where two refusals are due, the one that stands first is made."""

    def test_come(self):
        come = self.wires.come
        self.refused(NoHand, come, True, True)
        self.refused(NoHand, come, 8, 4)
        self.refused(NoWire, come, 1, 4)
        self.refused(IsOn, come, 1, 0)

    def test_go_and_the_like(self):
        for call in (self.wires.go, self.wires.ask_all, self.wires.claims_of, self.wires.all_known):
            self.refused(NoHand, call, 9)
            self.refused(NotOn, call, 7)

    def test_of_a_hand_and_a_name(self):
        for call in (self.wires.drop, self.wires.ask, self.wires.known_of, self.wires.asking_of):
            self.refused(NoHand, call, [], [])
            self.refused(NotOn, call, 7, [])
            self.refused(NoName, call, 1, [])
        self.refused(NoClaim, self.wires.drop, 1, "q")

    def test_meet(self):
        meet = self.wires.meet
        self.assertEqual(self.refused(NoWire, meet, 5, 6).wire, 5)
        self.assertEqual(self.refused(NoWire, meet, 1, 6).wire, 6)
        self.assertEqual(self.refused(NoWire, meet, 9, 9).wire, 9)
        self.assertIs(self.refused(NoWire, meet, True, True).wire, True)
        self.refused(SameWire, meet, 1, 1)

    def test_part(self):
        part = self.wires.part
        self.assertEqual(self.refused(NoWire, part, 5, [], 6).wire, 5)
        self.refused(NoHands, part, 0, [], 6)
        self.refused(NoHands, part, 0, [4], 0)
        self.refused(NoHands, part, 0, [0, 0], 1)
        self.assertEqual(self.refused(NoWire, part, 0, [0], 6).wire, 6)
        self.refused(SameWire, part, 0, [0], 0)
        self.refused(SameWire, part, 0, [0, 1, 2], 0)
        self.refused(NotEmpty, part, 0, [0], 1)

    def test_claim(self):
        claim = self.wires.claim
        self.refused(NoHand, claim, [], [], [], tries=[])
        self.refused(NotOn, claim, 7, [], [], tries=[])
        self.refused(NoName, claim, 0, [], [], tries=[])
        self.refused(NoMark, claim, 0, "b", [], tries=[])
        self.refused(NoTries, claim, 0, "b", 5, tries=[])
        self.refused(Claimed, claim, 0, "b", 5)
        self.refused(TooMany, claim, 0, "d", 5)
        self.refused(NoMark, claim, 0, "d", 1000)
        self.refused(NoTries, claim, 0, "d", 5, tries=0)

    def test_tries_are_handed_in_by_name(self):
        with self.assertRaises(TypeError):
            self.wires.claim(1, "d", 5, 1)

    def test_letters(self):
        wires = self.wires
        came = [row[0] for row in wires.way() if row[8]][0]
        fresh = [row[0] for row in wires.way() if row[7] == wires.now()][0]
        self.refused(Came, wires.lose, came)
        self.refused(Early, wires.hand_over, fresh)
        self.refused(Early, wires.hand_over, fresh, keep=True)


class Owing(unittest.TestCase):
    def test_no_letter_then_came_then_owed(self):
        wires = wires_of(2, bounds=Bounds(lost=0, late=2), rule=rule_of(repeats=0))
        wires.ask_all(0)
        with self.assertRaises(Owed):
            wires.lose(0)
        wires.tick()
        wires.hand_over(0, keep=True)
        with self.assertRaises(Came):
            wires.lose(0)
        wires.hand_over(0)
        with self.assertRaises(NoLetter):
            wires.lose(0)


class TheSameCalls(unittest.TestCase):
    def test_have_the_same_answers(self):
        self.assertEqual(told(busy()), told(busy()))


if __name__ == "__main__":
    unittest.main()
