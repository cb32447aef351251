"""Coming, going, joining and parting [20], what is told [21], notes [22], the script [23]."""

import unittest

from tests.helper import (
    BOUNDS,
    hear_all,
    LEAST,
    letters,
    lonely_ticks,
    numbers,
    pass_ticks,
    replay,
    rule_of,
    told,
    wires_of,
)
from wirenames.errors import Claimed, IsOn, NoHands, NotEmpty, NotOn, SameWire
from wirenames.rules import Bounds, least_rule, mending_time
from wirenames.wires import Wires

FREE = Bounds(lost=0, late=1)
QUICK = rule_of(probes=1, wait=0, period=20, life=30)


class New(unittest.TestCase):
    def test_nothing_stands_there_at_tick_nought(self):
        for wires in (Wires(BOUNDS, LEAST), Wires(rule=LEAST, bounds=BOUNDS)):
            self.assertEqual(wires.now(), 0)
            self.assertEqual([wires.hands_on(wire) for wire in range(4)], [[], [], [], []])
            self.assertEqual((wires.way(), wires.notes(), wires.script(), wires.doubles()), ([], [], [], []))
            self.assertEqual(wires.who_holds("a"), [])
            self.assertEqual(len(wires), 0)

    def test_two_wires_have_nothing_in_common(self):
        first, second = wires_of(2), wires_of(2)
        before = told(second)
        first.claim(0, "a", 5)
        first.ask_all(1)
        pass_ticks(first, 9)
        self.assertEqual(told(second), before)


class ComingAndGoing(unittest.TestCase):
    def test_hands_come_and_go(self):
        wires = Wires(BOUNDS, LEAST)
        for hand, wire in ((7, 3), (2, 3), (0, 0), (5, 3)):
            self.assertIsNone(wires.come(hand, wire))
        self.assertEqual([wires.hands_on(wire) for wire in range(4)], [[0], [], [], [2, 5, 7]])
        self.assertIsNone(wires.go(5))
        self.assertEqual(wires.hands_on(3), [2, 7])
        wires.come(5, 1)
        self.assertEqual(wires.hands_on(1), [5])

    def test_who_stands_somewhere_comes_nowhere(self):
        wires = wires_of(2)
        before = told(wires)
        for wire in (0, 1):
            with self.assertRaises(IsOn) as refused:
                wires.come(1, wire)
            self.assertEqual(refused.exception.hand, 1)
        self.assertEqual(told(wires), before)

    def test_who_stands_nowhere_goes_nowhere(self):
        wires = wires_of(2)
        wires.go(1)
        before = told(wires)
        for hand in (1, 2):
            with self.assertRaises(NotOn) as refused:
                wires.go(hand)
            self.assertEqual(refused.exception.hand, hand)
        self.assertEqual(told(wires), before)

    def test_who_goes_has_nothing_any_more_and_sends_nothing(self):
        wires = wires_of(3, rule=QUICK)
        wires.claim(0, "a", 5)
        wires.claim(1, "b", 5)
        wires.ask(0, "c")
        wires.ask(0, "d")
        pass_ticks(wires, 5)
        wires.ask(0, "d")
        wires.ask_all(0)
        wires.claim(0, "e", 5)
        self.assertEqual(wires.asking_of(0, "c"), "none")
        self.assertEqual(wires.all_known(0), [("a", 0, 5, 0), ("b", 1, 5, 5)])
        many = len(wires)
        wires.go(0)
        self.assertEqual(len(wires), many)
        wires.come(0, 0)
        self.assertEqual(wires.claims_of(0), [])
        self.assertEqual(wires.all_known(0), [])
        self.assertEqual([wires.asking_of(0, name) for name in "cd"], ["not asked", "not asked"])
        self.assertEqual(wires.who_holds("a"), [])
        pass_ticks(wires, 30)
        self.assertEqual(numbers(wires, sender=0), [])
        self.assertEqual([note for note in wires.notes() if note[0] > 5 and note[2] == 0], [])

    def test_no_gone_is_sent_and_others_know_it_on(self):
        wires = wires_of(2, bounds=FREE, rule=QUICK)
        wires.claim(0, "a", 5)
        pass_ticks(wires, 2)
        wires.go(0)
        self.assertEqual(wires.way(), [])
        self.assertEqual(wires.known_of(1, "a"), (0, 5, 1))


class JoiningAndParting(unittest.TestCase):
    def test_all_hands_of_the_second_stand_on_the_first(self):
        wires = Wires(BOUNDS, LEAST)
        for hand, wire in ((4, 1), (0, 2), (6, 2), (1, 1), (3, 0)):
            wires.come(hand, wire)
        self.assertIsNone(wires.meet(1, 2))
        self.assertEqual([wires.hands_on(wire) for wire in range(4)], [[3], [0, 1, 4, 6], [], []])
        self.assertIsNone(wires.meet(wire=3, other=1))
        self.assertEqual([wires.hands_on(wire) for wire in range(4)], [[3], [], [], [0, 1, 4, 6]])

    def test_an_empty_wire_is_joined_too(self):
        wires = wires_of(2)
        wires.meet(0, 3)
        self.assertEqual(wires.hands_on(0), [0, 1])
        wires.meet(2, 3)
        self.assertEqual(wires.script()[-2:], [("join", 0, 3), ("join", 2, 3)])

    def test_a_wire_is_not_joined_to_itself(self):
        wires = wires_of(2)
        before = told(wires)
        for wire in (0, 1):
            with self.assertRaises(SameWire):
                wires.meet(wire, wire)
        self.assertEqual(told(wires), before)

    def test_some_hands_or_all_are_parted_off(self):
        wires = wires_of(4)
        self.assertIsNone(wires.part(0, [3, 1], 2))
        self.assertEqual([wires.hands_on(wire) for wire in range(4)], [[0, 2], [], [1, 3], []])
        wires.part(wire=0, hands=[0, 2], other=1)
        self.assertEqual([wires.hands_on(wire) for wire in range(4)], [[], [0, 2], [1, 3], []])

    def test_no_hands(self):
        wires = wires_of(4)
        wires.go(3)
        wires.come(4, 1)
        before = told(wires)
        wrong = [[], (1,), (1, 2), None, True, 1, "1", [1, 1], [3], [0, 3], [0, 4], [0, 5], [8], [-1]]
        wrong += [[True], [False], [0, True], [None], ["1"], [[1]], [(1,)], [0, [1]], [10**59], [0] * 50000]
        for hands in wrong:
            with self.assertRaises(NoHands):
                wires.part(0, hands, 2)
        for hands in ([0], [4]):
            with self.assertRaises(NoHands):
                wires.part(3, hands, 2)
        self.assertEqual(told(wires), before)

    def test_the_same_wire_or_one_that_isnt_empty(self):
        wires = wires_of(4)
        wires.come(4, 1)
        before = told(wires)
        with self.assertRaises(SameWire):
            wires.part(0, [0, 1], 0)
        with self.assertRaises(NotEmpty):
            wires.part(0, [0, 1], 1)
        self.assertEqual(told(wires), before)

    def test_the_list_that_was_handed_in_stays_and_is_not_kept(self):
        wires = wires_of(4)
        hands = [3, 1]
        wires.part(0, hands, 2)
        self.assertEqual(hands, [3, 1])
        before = told(wires)
        hands.append(0)
        self.assertEqual(told(wires), before)
        self.assertEqual(wires.script()[-1], ("part", 0, (1, 3), 2))

    def test_hands_keep_what_they_have(self):
        wires = wires_of(3, rule=rule_of(probes=2, wait=5, gap=2, repeats=2, life=100))
        wires.claim(0, "a", 5)
        wires.ask(0, "c")
        wires.ask_all(1)
        pass_ticks(wires, 1)
        before = told(wires)
        wires.part(0, [0, 1], 1)
        wires.meet(3, 1)
        wires.meet(2, 0)
        self.assertEqual(told(wires)[3], before[3])
        self.assertEqual(told(wires)[6], before[6])
        pass_ticks(wires, 1)
        self.assertEqual(letters(wires), [("probe", 0, 1, "a"), ("ask", 0, 1, "c"), ("ask", 1, 0, "")])

    def test_an_asking_goes_on_while_wires_are_joined_and_parted(self):
        wires = Wires(FREE, rule_of(probes=1, wait=0, gap=1, repeats=2, life=60))
        wires.come(0, 0)
        wires.come(1, 1)
        wires.claim(1, "a", 5)
        lonely_ticks(wires, 3)
        wires.ask(0, "a")
        wires.meet(0, 1)
        self.assertEqual(wires.way(), [])
        wires.tick()
        self.assertEqual(letters(wires), [("ask", 0, 1, "a")])
        wires.part(0, [1], 3)
        wires.tick()
        hear_all(wires)
        self.assertEqual(letters(wires), [])
        self.assertEqual(wires.asking_of(0, "a"), "open")
        wires.meet(3, 0)
        wires.tick()
        self.assertEqual(letters(wires), [("hold", 1, 0, "a")])
        pass_ticks(wires, 1)
        self.assertEqual(wires.asking_of(0, "a"), "not asked")

    def test_claims_parted_off_know_nothing_of_each_other(self):
        wires = wires_of(2)
        wires.claim(0, "a", 5)
        wires.part(0, [1], 1)
        wires.claim(1, "a", 5)
        hear_all(wires)
        for number in numbers(wires):
            wires.lose(number)
        lonely_ticks(wires, 8)
        self.assertEqual(wires.who_holds("a"), [(0, 0), (1, 1)])
        self.assertEqual(wires.doubles(), [])


class Told(unittest.TestCase):
    def test_who_holds_by_wires_then_hands(self):
        wires = Wires(FREE, QUICK)
        for hand, wire in ((0, 3), (7, 0), (4, 1), (2, 2)):
            wires.come(hand, wire)
            wires.claim(hand, "a", hand)
        self.assertEqual(wires.who_holds("a"), [])
        wires.tick()
        self.assertEqual(wires.who_holds("a"), [(0, 7), (1, 4), (2, 2), (3, 0)])
        self.assertEqual(wires.who_holds("a2"), [])
        wires.drop(4, "a")
        self.assertEqual(wires.who_holds("a"), [(0, 7), (2, 2), (3, 0)])

    def test_doubles_by_wires_then_names(self):
        wires = Wires(FREE, QUICK)
        for hand in range(8):
            wires.come(hand, hand % 4)
        for hand in (0, 1, 2, 3):
            for name in ("b", "a2", "ab"):
                wires.claim(hand, name, 5)
        for hand in (4, 5):
            wires.claim(hand, "c", 5)
        lonely_ticks(wires, 1)
        hear_all(wires)
        wires.tick()
        self.assertEqual(wires.doubles(), [])
        wires.meet(3, 0)
        wires.meet(2, 1)
        self.assertEqual(
            wires.doubles(),
            [
                (2, "a2", (1, 2)),
                (2, "ab", (1, 2)),
                (2, "b", (1, 2)),
                (3, "a2", (0, 3)),
                (3, "ab", (0, 3)),
                (3, "b", (0, 3)),
            ],
        )
        wires.meet(2, 3)
        hands = (0, 1, 2, 3)
        self.assertEqual(wires.doubles(), [(2, "a2", hands), (2, "ab", hands), (2, "b", hands), (2, "c", (4, 5))])

    def test_a_probing_claim_is_no_double(self):
        wires = wires_of(2, rule=rule_of(probes=1, wait=9))
        wires.claim(0, "a", 5)
        wires.claim(1, "a", 5)
        self.assertEqual(wires.doubles(), [])
        self.assertEqual(wires.who_holds("a"), [])

    def test_changing_a_told_list_changes_no_later_answer(self):
        wires = wires_of(3, rule=QUICK)
        wires.claim(0, "a", 5)
        wires.claim(1, "b", 5)
        wires.part(0, [2], 1)
        wires.claim(2, "a", 5)
        pass_ticks(wires, 2)
        wires.ask_all(1)
        wires.meet(0, 1)
        before = told(wires)
        for tell in (
            wires.way,
            wires.doubles,
            wires.notes,
            wires.script,
            lambda: wires.hands_on(0),
            lambda: wires.claims_of(0),
            lambda: wires.who_holds("a"),
            lambda: wires.all_known(0),
        ):
            rows = tell()
            self.assertNotEqual(rows, [])
            rows.reverse()
            rows.append("more")
            rows.clear()
            self.assertEqual(told(wires), before)

    def test_the_length_is_how_many_are_on_their_way(self):
        wires = wires_of(3)
        wires.claim(0, "a", 5)
        self.assertEqual(len(wires), 2)
        wires.lose(0)
        self.assertEqual(len(wires), 1)
        wires.tick()
        self.assertEqual(len(wires), 3)
        wires.hand_over(1, keep=True)
        self.assertEqual(len(wires), 3)
        wires.hand_over(1)
        self.assertEqual(len(wires), 2)


class Notes(unittest.TestCase):
    def test_at_a_ticks_end_all_that_hold_then_all_askings(self):
        wires = wires_of(3, bounds=FREE, rule=rule_of(probes=1, wait=2, repeats=0, life=30))
        for hand, name in ((2, "c"), (0, "b"), (2, "a"), (0, "d")):
            wires.ask(hand, "x" + name)
            wires.claim(hand, name, hand)
        pass_ticks(wires, 3)
        self.assertEqual(
            wires.notes(),
            [
                (2, "holds", 0, "b", 0),
                (2, "holds", 0, "d", 0),
                (2, "holds", 2, "a", 2),
                (2, "holds", 2, "c", 2),
                (2, "ends", 0, "xb"),
                (2, "ends", 0, "xd"),
                (2, "ends", 2, "xa"),
                (2, "ends", 2, "xc"),
            ],
        )

    def test_nothing_else_is_noted(self):
        wires = wires_of(3, bounds=FREE, rule=QUICK)
        wires.ask(1, "a")
        wires.ask_all(1)
        wires.claim(0, "a", 5)
        wires.drop(0, "a")
        wires.go(2)
        wires.come(2, 1)
        wires.meet(0, 1)
        wires.part(0, [2], 1)
        self.assertEqual(wires.notes(), [])

    def test_noted_tells_what_was_noted_meanwhile(self):
        wires = wires_of(2, bounds=FREE, rule=QUICK)
        wires.claim(0, "a", 5)
        wires.tick()
        hear_all(wires)
        wires.claim(1, "b", 5)
        given = []

        def deed(own):
            given.append(own)
            own.tick()

        self.assertEqual(wires.noted(deed), [(1, "holds", 1, "b", 5)])
        self.assertEqual(len(given), 1)
        self.assertIs(given[0], wires)
        self.assertEqual(len(wires.notes()), 2)
        self.assertEqual(wires.noted(deed=lambda own: None), [])

    def test_what_noted_tells_is_the_askers_own(self):
        wires = wires_of(1, bounds=FREE, rule=QUICK)
        wires.claim(0, "a", 5)
        rows = wires.noted(lambda own: own.tick())
        rows.clear()
        self.assertEqual(wires.notes(), [(0, "holds", 0, "a", 5)])

    def test_notes_within_notes_are_told_both(self):
        wires = wires_of(1, bounds=FREE, rule=QUICK)
        inner = []

        def step(own):
            own.tick()

        def deed(own):
            own.claim(0, "a", 5)
            own.tick()
            own.claim(0, "b", 5)
            inner.append(own.noted(step))
            own.claim(0, "c", 5)
            own.tick()

        outer = wires.noted(deed)
        self.assertEqual(inner, [[(1, "holds", 0, "b", 5)]])
        self.assertEqual([note[3] for note in outer], ["a", "b", "c"])
        self.assertEqual(wires.notes(), outer)

    def test_what_the_def_refuses_comes_through_and_notes_stay(self):
        wires = wires_of(1, bounds=FREE, rule=QUICK)

        def deed(own):
            own.claim(0, "a", 5)
            own.tick()
            own.claim(0, "a", 6)

        with self.assertRaises(Claimed):
            wires.noted(deed)
        self.assertEqual(wires.notes(), [(0, "holds", 0, "a", 5)])
        self.assertEqual(wires.noted(lambda own: None), [])

    def test_what_the_def_raises_comes_through_and_notes_stay(self):
        wires = wires_of(1, bounds=FREE, rule=QUICK)

        class Odd(Exception):
            pass

        def within(own):
            own.tick()
            raise Odd("as it is")

        def deed(own):
            own.claim(0, "a", 5)
            own.noted(within)

        for _ in range(2):
            with self.assertRaises(Odd) as raised:
                wires.noted(deed)
            self.assertEqual(raised.exception.args, ("as it is",))
            wires.drop(0, "a")
        self.assertEqual([note[0] for note in wires.notes()], [0, 1])


class Script(unittest.TestCase):
    def history(self):
        wires = wires_of(3, rule=QUICK)
        wires.come(5, 2)
        wires.claim(0, "a", 5)
        wires.claim(hand=1, name="a", mark=6, tries=3)
        wires.ask(2, "a")
        wires.tick()
        wires.hand_over(0)
        wires.hand_over(1, keep=True)
        wires.lose(2)
        wires.hand_over(4)
        wires.hand_over(5)
        wires.ask_all(2)
        wires.ask(0, "a")
        wires.part(0, [2, 0], 1)
        wires.meet(3, 2)
        wires.drop(0, "a")
        wires.go(1)
        return wires

    def test_all_calls_that_were_done_in_order(self):
        self.assertEqual(
            self.history().script(),
            [
                ("come", 0, 0),
                ("come", 1, 0),
                ("come", 2, 0),
                ("come", 5, 2),
                ("claim", 0, "a", 5, 1),
                ("claim", 1, "a", 6, 3),
                ("ask", 2, "a"),
                ("tick",),
                ("hand over", 0),
                ("keep", 1),
                ("lose", 2),
                ("hand over", 4),
                ("hand over", 5),
                ("ask all", 2),
                ("ask", 0, "a"),
                ("part", 0, (0, 2), 1),
                ("join", 3, 2),
                ("drop", 0, "a"),
                ("go", 1),
            ],
        )

    def test_refused_calls_are_left_out(self):
        wires = self.history()
        before = wires.script()
        for deed in (
            lambda: wires.come(0, 0),
            lambda: wires.go(1),
            lambda: wires.claim(1, "a", 5),
            lambda: wires.claim(0, "A", 5),
            lambda: wires.drop(0, "a"),
            lambda: wires.ask(7, "a"),
            lambda: wires.ask(0, ""),
            lambda: wires.ask_all(1),
            lambda: wires.meet(0, 0),
            lambda: wires.part(1, [5], 2),
            lambda: wires.hand_over(0),
            lambda: wires.hand_over(99, keep=True),
            lambda: wires.lose(1),
        ):
            with self.assertRaises((ValueError, LookupError)):
                deed()
        self.assertEqual(wires.script(), before)

    def test_a_refused_tick_is_left_out(self):
        wires = wires_of(2, bounds=FREE, rule=QUICK)
        wires.ask_all(0)
        wires.tick()
        with self.assertRaises(ValueError):
            wires.tick()
        self.assertEqual(wires.script()[-2:], [("ask all", 0), ("tick",)])

    def test_an_ask_that_told_known_is_in_it(self):
        wires = wires_of(1, rule=QUICK)
        wires.claim(0, "a", 5)
        wires.tick()
        self.assertEqual(wires.ask(0, "a"), "known")
        self.assertEqual(wires.ask(0, "b"), "asked")
        self.assertEqual(wires.ask(0, "b"), "asked")
        self.assertEqual(wires.script()[-3:], [("ask", 0, "a"), ("ask", 0, "b"), ("ask", 0, "b")])

    def test_what_is_only_told_is_not_in_it(self):
        wires = self.history()
        before = wires.script()
        told(wires)
        wires.noted(lambda own: own.way())
        self.assertEqual(wires.script(), before)

    def test_calls_within_noted_are_in_it(self):
        wires = wires_of(1)
        wires.noted(lambda own: own.tick())
        self.assertEqual(wires.script(), [("come", 0, 0), ("tick",)])

    def test_wires_that_go_along_it_tell_the_same(self):
        wires = self.history()
        self.assertEqual(told(replay(BOUNDS, QUICK, wires.script())), told(wires))


class Mending(unittest.TestCase):
    def test_the_greatest_rank_holds_alone_from_the_mending_time_on(self):
        bounds = Bounds(lost=1, late=2)
        rule = least_rule(bounds)
        wires = Wires(bounds, rule)
        for hand, wire, mark in ((0, 0, 7), (1, 1, 9), (2, 2, 9)):
            wires.come(hand, wire)
            wires.claim(hand, "a", mark)
        lonely_ticks(wires, 10)
        wires.meet(0, 1)
        wires.meet(0, 2)
        self.assertEqual(wires.doubles(), [(0, "a", (0, 1, 2))])
        for _ in range(mending_time(bounds, rule) + 1):
            hear_all(wires, sent=wires.now() - 2)
            wires.tick()
        self.assertEqual(wires.who_holds("a"), [(0, 2)])


if __name__ == "__main__":
    unittest.main()
