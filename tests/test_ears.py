"""What a hand knows [16, 17], asking for a name [18] and for all names [19]."""

import unittest

from tests.helper import (
    BOUNDS,
    hear_all,
    letters,
    lonely_ticks,
    numbers,
    pass_ticks,
    rule_of,
    told,
    wires_of,
)
from wirenames.rules import Bounds, asking_time
from wirenames.wires import Wires

FREE = Bounds(lost=0, late=1)
QUICK = rule_of(probes=1, wait=0, period=200, life=12)


def sent_by(wires, hand):
    return [(row[1], row[4], row[7]) for row in wires.way() if row[2] == hand]


def ask_ticks(wires, hand, name, ticks):
    """The ticks of the hand's letters `ask` of the name, from now on; nobody answers."""
    seen = {}
    for _ in range(ticks + 1):
        for row in wires.way():
            if row[1:3] == ("ask", hand) and row[4] == name:
                seen[row[0]] = row[7]
        for number in [row[0] for row in wires.way() if row[7] < wires.now()]:
            wires.hand_over(number)
        wires.tick()
    return [seen[number] for number in sorted(seen)]


class Ears(unittest.TestCase):
    def test_a_hold_is_written_down(self):
        wires = wires_of(2, bounds=FREE, rule=QUICK)
        wires.claim(0, "a", 5)
        pass_ticks(wires, 1)
        self.assertIsNone(wires.known_of(1, "a"))
        self.assertEqual(wires.all_known(1), [])
        pass_ticks(wires, 1)
        self.assertEqual(wires.known_of(1, "a"), (0, 5, 1))
        self.assertEqual(wires.all_known(1), [("a", 0, 5, 1)])
        self.assertIsNone(wires.known_of(1, "b"))

    def test_a_probe_is_not(self):
        wires = wires_of(2, bounds=FREE, rule=rule_of(probes=3, wait=9))
        wires.claim(0, "a", 5)
        pass_ticks(wires, 8)
        self.assertIsNone(wires.known_of(1, "a"))

    def test_the_age_and_late_together_up_to_the_life_and_one_tick_behind(self):
        for late in (1, 2, 5):
            wires = wires_of(2, bounds=Bounds(lost=0, late=late), rule=rule_of(wait=0, period=200, life=20))
            wires.claim(0, "a", 5)
            pass_ticks(wires, 2)
            for age in range(21):
                self.assertEqual(wires.now(), 2 + age)
                self.assertEqual(wires.known_of(1, "a"), (0, 5, age + late))
                self.assertEqual(wires.all_known(1), [("a", 0, 5, age + late)])
                self.assertEqual(wires.ask(1, "a"), "known")
                wires.tick()
            self.assertIsNone(wires.known_of(1, "a"))
            self.assertEqual(wires.all_known(1), [])
            self.assertEqual(wires.ask(1, "a"), "asked")

    def test_a_hold_heard_again_is_written_anew(self):
        wires = wires_of(2, bounds=FREE, rule=rule_of(wait=0, period=5, life=12))
        wires.claim(0, "a", 5)
        pass_ticks(wires, 6)
        self.assertEqual(wires.known_of(1, "a"), (0, 5, 5))
        pass_ticks(wires, 1)
        self.assertEqual(wires.known_of(1, "a"), (0, 5, 1))

    def handed_on(self):
        """Hand 0 dropped a name at tick 2, hand 2 holds it then; hand 1 knows of 0, and heard no gone."""
        wires = wires_of(3, rule=QUICK)
        wires.claim(0, "a", 5)
        pass_ticks(wires, 2)
        wires.drop(0, "a")
        wires.claim(2, "a", 3)
        wires.tick()
        hear_all(wires, kind="probe")
        wires.tick()
        return wires

    def test_another_hold_takes_the_place_of_the_first(self):
        wires = self.handed_on()
        self.assertEqual(wires.known_of(1, "a"), (0, 5, 4))
        hear_all(wires, kind="hold")
        self.assertEqual(wires.known_of(1, "a"), (2, 3, 2))

    def test_gone_strikes_out_what_its_sender_held(self):
        wires = self.handed_on()
        hear_all(wires, kind="gone")
        self.assertIsNone(wires.known_of(1, "a"))
        self.assertEqual(wires.all_known(1), [])
        hear_all(wires, kind="hold")
        self.assertEqual(wires.known_of(1, "a"), (2, 3, 2))

    def test_gone_strikes_out_nothing_of_another_hand(self):
        wires = self.handed_on()
        hear_all(wires, kind="hold")
        hear_all(wires, kind="gone")
        self.assertEqual(wires.known_of(1, "a"), (2, 3, 2))

    def test_gone_strikes_out_its_own_name_alone(self):
        wires = wires_of(2, bounds=FREE, rule=QUICK)
        wires.claim(0, "a", 5)
        wires.claim(0, "a2", 5)
        pass_ticks(wires, 2)
        wires.drop(0, "a2")
        pass_ticks(wires, 1)
        self.assertEqual(wires.all_known(1), [("a", 0, 5, 2)])

    def test_a_gone_of_a_name_that_isnt_known(self):
        wires = wires_of(1, bounds=FREE, rule=QUICK)
        wires.claim(0, "a", 5)
        pass_ticks(wires, 2)
        wires.come(1, 0)
        wires.drop(0, "a")
        pass_ticks(wires, 1)
        self.assertIsNone(wires.known_of(1, "a"))

    def test_a_name_that_the_hand_holds_itself(self):
        wires = Wires(FREE, rule_of(probes=1, wait=0, period=6, life=30))
        wires.come(0, 0)
        wires.come(1, 1)
        wires.claim(0, "a", 5)
        wires.claim(1, "a", 6)
        self.assertIsNone(wires.known_of(1, "a"))
        lonely_ticks(wires, 6)
        self.assertEqual(wires.known_of(1, "a"), (1, 6, 0))
        self.assertEqual(wires.all_known(1), [("a", 1, 6, 0)])
        wires.meet(1, 0)
        lonely_ticks(wires, 2)
        hear_all(wires, to=1)
        self.assertEqual(wires.known_of(1, "a"), (1, 6, 0))
        self.assertEqual(wires.all_known(1), [("a", 1, 6, 0)])
        self.assertEqual(wires.ask(1, "a"), "known")
        wires.drop(1, "a")
        self.assertEqual(wires.known_of(1, "a"), (0, 5, 1))
        self.assertEqual(wires.all_known(1), [("a", 0, 5, 1)])

    def test_all_that_is_known_by_names(self):
        wires = wires_of(3, bounds=FREE, rule=QUICK)
        wires.claim(0, "b", 1)
        wires.claim(2, "ab", 2)
        wires.claim(1, "b2", 3)
        pass_ticks(wires, 2)
        wires.claim(1, "a", 4)
        wires.claim(0, "ab2", 0)
        self.assertEqual(wires.all_known(1), [("ab", 2, 2, 1), ("b", 0, 1, 1), ("b2", 1, 3, 0)])
        pass_ticks(wires, 2)
        self.assertEqual(
            wires.all_known(1),
            [("a", 1, 4, 0), ("ab", 2, 2, 3), ("ab2", 0, 0, 1), ("b", 0, 1, 3), ("b2", 1, 3, 0)],
        )


class Asking(unittest.TestCase):
    def test_known_sends_no_letter(self):
        wires = wires_of(2, bounds=FREE, rule=QUICK)
        wires.claim(0, "a", 5)
        pass_ticks(wires, 3)
        before = told(wires)
        self.assertEqual(wires.ask(1, "a"), "known")
        self.assertEqual(wires.ask(0, "a"), "known")
        self.assertEqual(told(wires)[:-2], before[:-2])
        self.assertEqual(wires.asking_of(1, "a"), "not asked")

    def test_asked_begins_an_asking(self):
        wires = wires_of(3)
        self.assertEqual(wires.asking_of(1, "a"), "not asked")
        self.assertEqual(wires.ask(1, "a"), "asked")
        self.assertEqual(letters(wires), [("ask", 1, 0, "a"), ("ask", 1, 2, "a")])
        self.assertEqual(wires.asking_of(1, "a"), "open")
        self.assertEqual(wires.asking_of(1, "b"), "not asked")
        self.assertEqual(wires.asking_of(0, "a"), "not asked")

    def test_an_asking_on_its_way_is_not_begun_anew(self):
        wires = wires_of(2, bounds=FREE, rule=rule_of(gap=3, repeats=1, life=100))
        self.assertEqual(wires.ask(0, "a"), "asked")
        self.assertEqual(wires.ask(0, "a"), "asked")
        self.assertEqual(len(wires), 1)
        pass_ticks(wires, 2)
        self.assertEqual(wires.ask(0, "a"), "asked")
        self.assertEqual(ask_ticks(wires, 0, "a", 20), [3])
        self.assertEqual(wires.notes(), [(8, "ends", 0, "a")])

    def test_letters_by_gaps_as_many_as_repeats(self):
        for gap in (1, 2, 5):
            for repeats in (0, 1, 3):
                wires = wires_of(2, bounds=FREE, rule=rule_of(gap=gap, repeats=repeats, life=400))
                pass_ticks(wires, 2)
                wires.ask(0, "a")
                expected = [2 + gap * turn for turn in range(repeats + 1)]
                self.assertEqual(ask_ticks(wires, 0, "a", 40), expected)

    def test_it_ends_by_its_time(self):
        for bounds, gap, repeats in ((FREE, 1, 0), (BOUNDS, 1, 1), (Bounds(lost=2, late=5), 3, 2)):
            rule = rule_of(gap=gap, repeats=repeats, life=400)
            wires = wires_of(2, bounds=bounds, rule=rule)
            pass_ticks(wires, 3)
            wires.ask(0, "a")
            span = asking_time(bounds, rule)
            self.assertEqual(span, 2 * bounds.late + 2 * repeats * gap)
            pass_ticks(wires, span)
            self.assertEqual(wires.asking_of(0, "a"), "open")
            self.assertEqual(wires.notes(), [])
            pass_ticks(wires, 1)
            self.assertEqual(wires.asking_of(0, "a"), "none")
            self.assertEqual(wires.notes(), [(3 + span, "ends", 0, "a")])

    def test_none_till_it_is_asked_anew(self):
        wires = wires_of(2, bounds=FREE, rule=QUICK)
        wires.ask(0, "a")
        pass_ticks(wires, 3)
        self.assertEqual(wires.asking_of(0, "a"), "none")
        pass_ticks(wires, 40)
        self.assertEqual(wires.asking_of(0, "a"), "none")
        self.assertEqual(wires.ask(0, "a"), "asked")
        self.assertEqual(wires.asking_of(0, "a"), "open")
        self.assertEqual(sent_by(wires, 0), [("ask", "a", 43)])
        pass_ticks(wires, 3)
        self.assertEqual(wires.asking_of(0, "a"), "none")
        self.assertEqual([note[0] for note in wires.notes()], [2, 45])

    def test_none_till_a_hold_of_it_is_heard(self):
        wires = wires_of(2, bounds=FREE, rule=QUICK)
        wires.ask(0, "a")
        wires.ask(0, "b")
        pass_ticks(wires, 3)
        wires.claim(1, "a", 5)
        pass_ticks(wires, 1)
        self.assertEqual(wires.asking_of(0, "a"), "none")
        pass_ticks(wires, 1)
        self.assertEqual(wires.asking_of(0, "a"), "not asked")
        self.assertEqual(wires.asking_of(0, "b"), "none")

    def test_none_stays_where_the_name_is_known_by_the_hand_itself(self):
        wires = wires_of(2, bounds=FREE, rule=QUICK)
        wires.ask(0, "a")
        pass_ticks(wires, 3)
        wires.claim(0, "a", 5)
        pass_ticks(wires, 1)
        self.assertEqual(wires.ask(0, "a"), "known")
        self.assertEqual(wires.asking_of(0, "a"), "none")

    def test_it_ends_by_a_hold(self):
        rule = rule_of(probes=1, wait=0, gap=2, repeats=3, life=100)
        wires = wires_of(3, bounds=FREE, rule=rule)
        wires.claim(0, "a", 5)
        pass_ticks(wires, 3)
        wires.go(1)
        wires.come(1, 0)
        self.assertEqual(wires.ask(1, "a"), "asked")
        pass_ticks(wires, 1)
        self.assertEqual(wires.asking_of(1, "a"), "open")
        self.assertEqual(sent_by(wires, 0), [("hold", "a", 4), ("hold", "a", 4)])
        pass_ticks(wires, 1)
        self.assertEqual(wires.asking_of(1, "a"), "not asked")
        self.assertEqual(wires.known_of(1, "a"), (0, 5, 1))
        # The repeat of tick 5 went to both others ahead of the hold; none follows.
        self.assertEqual(ask_ticks(wires, 1, "a", 20), [5, 5])
        self.assertEqual([note[1] for note in wires.notes()], ["holds"])

    def test_a_probe_or_a_gone_ends_no_asking(self):
        wires = wires_of(3, bounds=Bounds(lost=1, late=1), rule=rule_of(probes=1, wait=0, repeats=2, life=50))
        wires.claim(0, "a", 5)
        wires.ask(1, "a")
        wires.tick()
        hear_all(wires, kind="probe")
        hear_all(wires)
        wires.drop(0, "a")
        for number in numbers(wires, kind="hold"):
            wires.lose(number)
        pass_ticks(wires, 1)
        self.assertEqual(wires.asking_of(1, "a"), "open")

    def test_a_holder_answers_an_ask_with_repeats(self):
        wires = wires_of(2, bounds=FREE, rule=rule_of(probes=1, wait=0, gap=3, repeats=2, life=100))
        wires.claim(0, "a", 5)
        pass_ticks(wires, 5)
        wires.go(1)
        wires.come(1, 0)
        wires.ask(1, "a")
        ticks = []
        for _ in range(15):
            wires.tick()
            hear_all(wires)
            ticks += [row[7] for row in wires.way() if row[1] == "hold"]
        self.assertEqual(ticks, [6, 9, 12])

    def test_who_holds_something_else_or_only_probes_answers_nothing(self):
        wires = wires_of(3, bounds=FREE, rule=rule_of(probes=1, wait=0, life=100))
        wires.claim(0, "b", 5)
        pass_ticks(wires, 3)
        wires.ask(1, "a")
        wires.tick()
        wires.claim(2, "a", 5)
        hear_all(wires, kind="ask")
        self.assertEqual(sent_by(wires, 0), [])
        self.assertEqual(sent_by(wires, 2), [("probe", "a", 4)] * 2)

    def test_a_hand_that_comes_to_hold_the_name_goes_on_asking(self):
        wires = wires_of(2, bounds=FREE, rule=rule_of(probes=1, wait=0, gap=2, repeats=2, life=100))
        wires.ask(0, "a")
        wires.claim(0, "a", 5)
        pass_ticks(wires, 1)
        self.assertEqual(wires.who_holds("a"), [(0, 0)])
        self.assertEqual(wires.asking_of(0, "a"), "open")
        self.assertEqual(wires.ask(0, "a"), "known")
        self.assertEqual(ask_ticks(wires, 0, "a", 10), [2, 4])
        self.assertEqual(wires.asking_of(0, "a"), "none")
        self.assertEqual(wires.notes()[1:], [(10, "ends", 0, "a")])

    def test_alone_on_a_wire(self):
        wires = wires_of(1, bounds=FREE, rule=QUICK)
        self.assertEqual(wires.ask(0, "a"), "asked")
        lonely_ticks(wires, 3)
        self.assertEqual(wires.asking_of(0, "a"), "none")

    def test_askings_that_end_at_one_tick_end_by_names(self):
        wires = wires_of(2, bounds=FREE, rule=QUICK)
        for hand, name in ((1, "b"), (0, "c"), (1, "a2"), (1, "a"), (0, "b")):
            wires.ask(hand, name)
        pass_ticks(wires, 3)
        ends = [(2, "ends", 0, "b"), (2, "ends", 0, "c")]
        ends += [(2, "ends", 1, "a"), (2, "ends", 1, "a2"), (2, "ends", 1, "b")]
        self.assertEqual(wires.notes(), ends)


class AskingForAll(unittest.TestCase):
    def test_letters_by_gaps_as_many_as_repeats(self):
        wires = wires_of(2, bounds=FREE, rule=rule_of(gap=2, repeats=2, life=100))
        wires.ask_all(0)
        self.assertEqual(ask_ticks(wires, 0, "", 20), [0, 2, 4])
        self.assertEqual(wires.notes(), [])

    def test_at_once_each_time_and_begun_anew(self):
        wires = wires_of(2, bounds=FREE, rule=rule_of(gap=2, repeats=2, life=100))
        wires.ask_all(0)
        wires.ask_all(0)
        self.assertEqual(sent_by(wires, 0), [("ask", "", 0)] * 2)
        pass_ticks(wires, 3)
        wires.ask_all(0)
        self.assertEqual(sent_by(wires, 0), [("ask", "", 3)])
        self.assertEqual(ask_ticks(wires, 0, "", 20), [3, 5, 7])

    def test_asked_at_a_tick_at_which_a_repeat_was_sent(self):
        wires = wires_of(2, bounds=FREE, rule=rule_of(gap=2, repeats=1, life=100))
        wires.ask_all(0)
        pass_ticks(wires, 2)
        wires.ask_all(0)
        self.assertEqual(ask_ticks(wires, 0, "", 20), [2, 2, 4])

    def test_nothing_else_comes_of_it(self):
        wires = wires_of(2, bounds=FREE, rule=QUICK)
        wires.claim(1, "a", 5)
        wires.ask_all(0)
        self.assertEqual(wires.asking_of(0, "a"), "not asked")
        pass_ticks(wires, 10)
        self.assertEqual(wires.asking_of(0, "a"), "not asked")
        self.assertEqual([note[1] for note in wires.notes()], ["holds"])

    def known_in(self, wires, hand):
        return [row[6] for row in wires.way() if row[1] == "ask" and row[2] == hand]

    def test_known_are_the_pairs_of_young_entries(self):
        for life, oldest in ((12, 6), (13, 6), (14, 7)):
            wires = wires_of(2, bounds=FREE, rule=rule_of(probes=1, wait=0, period=200, life=life))
            wires.claim(1, "a", 5)
            pass_ticks(wires, 2)
            wires.go(1)
            wires.come(1, 0)
            for age in range(life + 3):
                wires.ask_all(0)
                pairs = (("a", 1),) if age <= oldest else ()
                self.assertEqual(self.known_in(wires, 0), [pairs], (life, age))
                pass_ticks(wires, 1)

    def test_pairs_stand_by_names_and_are_of_the_ear_alone(self):
        wires = wires_of(4, bounds=FREE, rule=QUICK)
        wires.claim(3, "b", 1)
        wires.claim(1, "c", 1)
        wires.claim(2, "a", 1)
        wires.claim(1, "a2", 1)
        wires.claim(0, "own", 1)
        pass_ticks(wires, 2)
        wires.ask_all(0)
        pairs = (("a", 2), ("a2", 1), ("b", 3), ("c", 1))
        self.assertEqual(self.known_in(wires, 0), [pairs] * 3)
        self.assertEqual([row[4:6] for row in wires.way()], [("", 0)] * 3)

    def test_known_anew_at_each_letter(self):
        wires = wires_of(2, rule=rule_of(probes=1, wait=0, gap=1, repeats=4, period=200, life=40))
        wires.claim(1, "a", 5)
        wires.ask_all(0)
        seen = {}
        for _ in range(5):
            wires.tick()
            seen.update({row[7]: row[6] for row in wires.way() if row[1] == "ask"})
            hear_all(wires)
        # The hold of tick 1 is heard at tick 2, behind the letter that begins it.
        self.assertEqual(seen, {0: (), 1: (), 2: (), 3: (("a", 1),), 4: (("a", 1),)})

    def test_a_holder_answers_with_each_holding_claim_by_names(self):
        wires = wires_of(2, bounds=FREE, rule=QUICK)
        for name in ("c", "a", "b"):
            wires.claim(1, name, 5)
        pass_ticks(wires, 2)
        wires.go(0)
        wires.come(0, 0)
        wires.ask_all(0)
        pass_ticks(wires, 1)
        self.assertEqual(sent_by(wires, 1), [("hold", "a", 3), ("hold", "b", 3), ("hold", "c", 3)])

    def test_not_with_those_whose_pair_is_known(self):
        wires = wires_of(2, bounds=FREE, rule=QUICK)
        wires.claim(1, "b", 5)
        pass_ticks(wires, 2)
        wires.part(0, [0], 1)
        wires.claim(1, "a", 5)
        wires.claim(1, "c", 5)
        lonely_ticks(wires, 2)
        wires.meet(0, 1)
        wires.ask_all(0)
        self.assertEqual(self.known_in(wires, 0), [(("b", 1),)])
        pass_ticks(wires, 1)
        self.assertEqual(sent_by(wires, 1), [("hold", "a", 5), ("hold", "c", 5)])

    def test_a_pair_of_another_hand_keeps_no_holder_from_answering(self):
        wires = wires_of(3, bounds=FREE, rule=QUICK)
        wires.claim(1, "a", 5)
        pass_ticks(wires, 2)
        wires.go(1)
        wires.part(0, [2], 1)
        wires.claim(2, "a", 4)
        lonely_ticks(wires, 2)
        wires.meet(0, 1)
        wires.ask_all(0)
        self.assertEqual(self.known_in(wires, 0), [(("a", 1),)])
        pass_ticks(wires, 1)
        self.assertEqual(sent_by(wires, 2), [("hold", "a", 5)])

    def test_probing_claims_answer_nothing(self):
        wires = wires_of(2, bounds=FREE, rule=rule_of(probes=1, wait=9, life=50))
        wires.claim(1, "a", 5)
        pass_ticks(wires, 2)
        wires.ask_all(0)
        pass_ticks(wires, 1)
        self.assertEqual(wires.way(), [])

    def test_what_answers_repeats(self):
        wires = wires_of(2, bounds=FREE, rule=rule_of(probes=1, wait=0, gap=3, repeats=1, period=90, life=50))
        wires.claim(1, "a", 5)
        pass_ticks(wires, 2)
        wires.go(0)
        wires.come(0, 0)
        wires.ask_all(0)
        ticks = []
        for _ in range(9):
            wires.tick()
            hear_all(wires)
            ticks += [row[7] for row in wires.way() if row[1] == "hold"]
        # Asked at 2 and, with the pair known, at 5; answered at 3 and once more at 6.
        self.assertEqual(ticks, [3, 6])


if __name__ == "__main__":
    unittest.main()
