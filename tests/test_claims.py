"""Claims [12], their letters [13], what they hear [14], giving way and dropping [15]."""

import unittest

from tests.helper import (
    BOUNDS,
    Chance,
    hear_all,
    letters,
    numbers,
    pass_ticks,
    rule_of,
    told,
    wires_of,
)
from wirenames.errors import Claimed, NoClaim, TooMany
from wirenames.rules import Bounds, claiming_time
from wirenames.wires import Wires

FREE = Bounds(lost=0, late=1)


def poke(wires, hand=1, name="a", mark=0):
    """A letter `probe` of a claim that is dropped at once."""
    wires.claim(hand, name, mark)
    wires.drop(hand, name)


def sent_by(wires, hand):
    """The letters of the hand that are on their way, as (kind, name, tick)."""
    return [(row[1], row[4], row[7]) for row in wires.way() if row[2] == hand]


def watch(wires, ticks, hand=0, deed=None):
    """All letters of a hand to one other, as (kind, tick), with all copies heard a tick later."""
    seen = {}
    for _ in range(ticks + 1):
        hear_all(wires)
        if deed is not None:
            deed(wires)
        for row in wires.way():
            if row[2] == hand:
                seen[row[0]] = (row[1], row[7])
        wires.tick()
    return [seen[number] for number in sorted(seen)]


class Beginning(unittest.TestCase):
    def test_a_claim_begins_probing(self):
        wires = wires_of(1)
        wires.tick()
        wires.claim(0, "a", 7)
        wires.claim(0, "b2", 999, tries=9)
        self.assertEqual(wires.claims_of(0), [("a", 7, 1, "probing", 1), ("b2", 999, 9, "probing", 1)])
        self.assertEqual(wires.who_holds("a"), [])
        self.assertEqual(wires.notes(), [])

    def test_it_holds_at_the_end_of_its_claiming_time(self):
        wires = wires_of(1)
        pass_ticks(wires, 3)
        wires.claim(0, "a", 7)
        pass_ticks(wires, 6)
        self.assertEqual(wires.claims_of(0), [("a", 7, 1, "probing", 3)])
        self.assertEqual(wires.who_holds("a"), [])
        wires.tick()
        self.assertEqual(wires.claims_of(0), [("a", 7, 1, "holding", 3)])
        self.assertEqual(wires.who_holds("a"), [(0, 0)])
        self.assertEqual(wires.notes(), [(9, "holds", 0, "a", 7)])

    def test_its_letters_when_nobody_answers(self):
        wires = wires_of(2)
        wires.claim(0, "a", 7)
        expected = [("probe", 0), ("probe", 1), ("hold", 7), ("hold", 15), ("hold", 23)]
        self.assertEqual(watch(wires, 25), expected)

    def test_probes_by_gaps(self):
        wires = wires_of(2, rule=rule_of(probes=3, gap=4, wait=2, period=30))
        wires.tick()
        wires.claim(0, "a", 7)
        expected = [("probe", 1), ("probe", 5), ("probe", 9), ("hold", 12), ("hold", 42)]
        self.assertEqual(watch(wires, 45), expected)

    def test_without_probes_none_is_sent(self):
        wires = wires_of(2, rule=rule_of(probes=0, gap=1, wait=3, period=30))
        wires.claim(0, "a", 7)
        self.assertEqual(wires.way(), [])
        self.assertEqual(watch(wires, 10), [("hold", 4)])

    def test_a_claiming_time_of_nought(self):
        for probes, first in ((0, []), (1, [("probe", 2)])):
            wires = wires_of(2, rule=rule_of(probes=probes, wait=0))
            pass_ticks(wires, 2)
            wires.claim(0, "a", 7)
            self.assertEqual(wires.claims_of(0), [("a", 7, 1, "probing", 2)])
            self.assertEqual(sent_by(wires, 0), [(kind, "a", tick) for kind, tick in first])
            wires.tick()
            self.assertEqual(wires.claims_of(0), [("a", 7, 1, "holding", 2)])
            self.assertEqual(wires.notes(), [(2, "holds", 0, "a", 7)])
            self.assertEqual(sent_by(wires, 0)[-1], ("hold", "a", 3))

    def test_the_last_probe_and_holding_at_one_tick(self):
        wires = wires_of(2, rule=rule_of(probes=2, gap=2, wait=0, period=30))
        wires.claim(0, "a", 7)
        self.assertEqual(watch(wires, 5), [("probe", 0), ("probe", 2), ("hold", 3)])

    def test_three_claims_hold_by_names(self):
        wires = wires_of(1)
        for name in ("c", "a", "b"):
            wires.claim(0, name, 7)
        pass_ticks(wires, 7)
        self.assertEqual([row[0] for row in wires.claims_of(0)], ["a", "b", "c"])
        self.assertEqual([note[3] for note in wires.notes()], ["a", "b", "c"])

    def test_the_fourth_is_too_many(self):
        wires = wires_of(2)
        for name in ("c", "a", "b"):
            wires.claim(0, name, 7)
        before = told(wires)
        with self.assertRaises(TooMany):
            wires.claim(0, "d", 7)
        self.assertEqual(told(wires), before)
        wires.claim(1, "d", 7)
        wires.drop(0, "b")
        wires.claim(0, "d", 7)
        self.assertEqual([row[0] for row in wires.claims_of(0)], ["a", "c", "d"])

    def test_a_name_is_claimed_once(self):
        wires = wires_of(1)
        wires.claim(0, "a", 7)
        before = told(wires)
        with self.assertRaises(Claimed):
            wires.claim(0, "a", 8)
        self.assertEqual(told(wires), before)
        pass_ticks(wires, 8)
        with self.assertRaises(Claimed):
            wires.claim(0, "a", 7)

    def test_claimed_is_told_ahead_of_too_many(self):
        wires = wires_of(1)
        for name in ("c", "a", "b"):
            wires.claim(0, name, 7)
        with self.assertRaises(Claimed):
            wires.claim(0, "b", 7)

    def test_a_claim_made_anew_is_another_one(self):
        wires = wires_of(2)
        wires.claim(0, "a", 7)
        wires.tick()
        wires.drop(0, "a")
        wires.claim(0, "a", 8)
        self.assertEqual(sent_by(wires, 0), [("probe", "a", 0), ("probe", "a", 1), ("probe", "a", 1)])
        self.assertEqual(wires.claims_of(0), [("a", 8, 1, "probing", 1)])
        pass_ticks(wires, 6)
        self.assertEqual(wires.who_holds("a"), [])
        pass_ticks(wires, 1)
        self.assertEqual(wires.who_holds("a"), [(0, 0)])


class Answering(unittest.TestCase):
    def held(self, ticks, **changed):
        """Wires at a tick, on which hand 0 holds a name since tick 0 and hand 1 stands by."""
        rule = rule_of(**{"probes": 1, "wait": 0, "repeats": 2, **changed})
        wires = wires_of(2, bounds=FREE, rule=rule)
        wires.claim(0, "a", 5)
        pass_ticks(wires, ticks)
        return wires

    def test_a_holder_answers_a_probe_of_whatever_rank(self):
        for mark in (0, 999):
            wires = self.held(3, gap=2)
            poke(wires, mark=mark)
            self.assertEqual(watch(wires, 12), [("hold", 4), ("hold", 6), ("hold", 8)])
            self.assertEqual(wires.who_holds("a"), [(0, 0)])

    def test_a_probing_claim_of_greater_rank_answers_a_probe(self):
        rule = rule_of(probes=1, gap=2, wait=20, repeats=2)
        for mark, hand in ((5, 0), (4, 2)):
            wires = wires_of(3, bounds=FREE, rule=rule)
            wires.claim(hand, "a", mark)
            wires.tick()
            poke(wires, hand=1, mark=4)
            hear_all(wires)
            wires.tick()
            hear_all(wires)
            self.assertEqual(wires.claims_of(hand), [("a", mark, 1, "probing", 0)])
            self.assertEqual(set(sent_by(wires, hand)), {("probe", "a", 2)})
            self.assertEqual(set(watch(wires, 8, hand=hand)), {("probe", 2), ("probe", 4), ("probe", 6)})

    def test_answers_go_to_all_others_on_the_wire(self):
        wires = wires_of(4, bounds=FREE, rule=rule_of(probes=1, wait=0))
        wires.part(0, [3], 1)
        wires.claim(0, "a", 5)
        pass_ticks(wires, 2)
        poke(wires, hand=2)
        wires.tick()
        hear_all(wires)
        self.assertEqual(letters(wires), [("hold", 0, 1, "a"), ("hold", 0, 2, "a")])
        self.assertEqual([row[5] for row in wires.way()], [5, 5])

    def test_nothing_is_sent_at_once_where_a_letter_was_sent_at_that_tick(self):
        wires = wires_of(2, bounds=FREE, rule=rule_of(probes=2, gap=3, wait=20, repeats=2))
        wires.claim(0, "a", 5)
        pass_ticks(wires, 2)
        poke(wires)
        wires.tick()
        self.assertEqual(sent_by(wires, 0), [("probe", "a", 3)])
        hear_all(wires)
        self.assertEqual(sent_by(wires, 0), [("probe", "a", 3)])
        self.assertEqual(watch(wires, 12), [("probe", 3), ("probe", 6), ("probe", 9)])

    def test_nor_where_it_was_sent_by_the_call_that_made_the_claim(self):
        wires = wires_of(2, bounds=FREE, rule=rule_of(probes=1, gap=2, wait=20, repeats=1))
        poke(wires)
        wires.tick()
        wires.claim(0, "a", 5)
        hear_all(wires)
        self.assertEqual(watch(wires, 8), [("probe", 1), ("probe", 3)])

    def test_nor_where_nobody_else_stood_on_the_wire_to_hear_it(self):
        wires = wires_of(2, bounds=FREE, rule=rule_of(probes=1, wait=0, repeats=1))
        wires.claim(0, "a", 5)
        poke(wires)
        wires.part(0, [0], 1)
        wires.tick()
        self.assertEqual(sent_by(wires, 0), [("probe", "a", 0)])
        wires.meet(1, 0)
        hear_all(wires)
        self.assertEqual(sent_by(wires, 0), [])
        wires.tick()
        self.assertEqual(sent_by(wires, 0), [("hold", "a", 2)])

    def test_one_letter_where_a_probe_and_a_repeat_fall_together(self):
        wires = wires_of(2, bounds=FREE, rule=rule_of(probes=4, gap=2, wait=20, repeats=3))
        wires.claim(0, "a", 5)
        pass_ticks(wires, 1)
        poke(wires)
        # Heard at tick 2, when a probe was sent; the repeats 4, 6 are ticks of probes, 8 is not.
        self.assertEqual([tick for kind, tick in watch(wires, 12)], [2, 4, 6, 8])

    def test_one_letter_where_the_period_and_a_repeat_fall_together(self):
        wires = self.held(4, gap=2, repeats=3, period=8)
        poke(wires)
        # Heard at tick 5; the repeats 7, 9, 11; the period's 9, 17.
        self.assertEqual([tick for kind, tick in watch(wires, 15)], [5, 7, 9, 11, 17])

    def test_one_letter_where_the_first_hold_and_a_repeat_fall_together(self):
        wires = wires_of(2, bounds=FREE, rule=rule_of(probes=1, gap=2, wait=3, repeats=2))
        wires.claim(0, "a", 5)
        pass_ticks(wires, 1)
        poke(wires)
        # Answered at 2, again at 4, when the first hold is due, and 6.
        self.assertEqual(watch(wires, 10), [("probe", 2), ("hold", 4), ("hold", 6)])

    def test_each_has_had_its_turn(self):
        wires = self.held(4, gap=1, period=5)
        poke(wires)
        # Heard at 5; the repeats 6, 7, the first of them with the period's; none is put off to 8.
        self.assertEqual([tick for kind, tick in watch(wires, 9)], [5, 6, 7, 11])

    def test_answering_anew_begins_the_repeats_anew(self):
        wires = self.held(9, gap=3)
        poke(wires)
        pass_ticks(wires, 4)
        # Answered at 10: 13, 16; answered at 14 anew: 17, 20.
        poke(wires)
        self.assertEqual(wires.now(), 13)
        self.assertEqual([tick for kind, tick in watch(wires, 12)], [13, 14, 17, 20])

    def test_answering_anew_at_a_tick_at_which_a_letter_was_sent(self):
        wires = self.held(9, gap=2, repeats=1)
        poke(wires)
        pass_ticks(wires, 2)
        # Answered at 10: 12; answered at 12 anew, when that repeat was sent: 14.
        poke(wires)
        self.assertEqual([tick for kind, tick in watch(wires, 8)], [12, 14])

    def test_two_answers_at_one_tick_are_one_letter(self):
        wires = self.held(9, gap=2, repeats=1)
        poke(wires)
        poke(wires)
        self.assertEqual([tick for kind, tick in watch(wires, 8)], [10, 12])

    def test_a_kept_probe_is_answered_each_tick_it_comes(self):
        wires = wires_of(2, rule=rule_of(probes=1, wait=0, repeats=0))
        wires.claim(0, "a", 5)
        pass_ticks(wires, 4)
        poke(wires)
        number = numbers(wires)[0]
        wires.tick()
        wires.hand_over(number, keep=True)
        wires.hand_over(number, keep=True)
        self.assertEqual(sent_by(wires, 0), [("hold", "a", 5)])
        wires.tick()
        wires.hand_over(number)
        self.assertEqual(sent_by(wires, 0), [("hold", "a", 5), ("hold", "a", 6)])

    def test_without_repeats_one_letter_is_the_answer(self):
        wires = self.held(5, repeats=0)
        poke(wires)
        self.assertEqual(watch(wires, 9), [("hold", 6)])

    def test_a_repeat_is_of_the_claims_stand_when_it_is_sent(self):
        wires = wires_of(2, bounds=FREE, rule=rule_of(probes=1, gap=1, wait=3, repeats=5))
        wires.claim(0, "a", 5)
        pass_ticks(wires, 1)
        poke(wires)
        # Answered at 2, while probing; holding from the end of 3 on.
        kinds = [("probe", 2), ("probe", 3), ("hold", 4), ("hold", 5), ("hold", 6), ("hold", 7)]
        self.assertEqual(watch(wires, 12), kinds)

    def test_letters_of_chance_are_sent_at_the_ticks_that_are_told(self):
        for seed in range(150):
            self.check_letters(Chance(seed))

    def check_letters(self, chance):
        bounds = Bounds(lost=0, late=1)
        probes, gap, wait = chance.below(5), 1 + chance.below(4), chance.below(6)
        repeats, more = chance.below(4), chance.below(6)
        time = max(probes - 1, 0) * gap + wait
        rule = rule_of(probes=probes, gap=gap, wait=wait, repeats=repeats, period=time + 2 + more, life=400)
        self.assertEqual(claiming_time(rule), time)
        wires = wires_of(2, bounds=bounds, rule=rule)
        pass_ticks(wires, chance.below(3))
        start = wires.now()
        wires.claim(0, "a", 5)
        due = {start + turn * gap for turn in range(probes)}
        due |= {start + time + 1 + turn * rule.period for turn in range(40)}
        again, expected, seen = set(), set(), set()
        while wires.now() < start + 60:
            now = wires.now()
            if now in due or now in again:
                expected.add(now)
            for number in numbers(wires, sender=1):
                wires.hand_over(number)
                expected.add(now)
                again = {now + turn * gap for turn in range(1, repeats + 1)}
            ours = [row for row in wires.way() if row[2] == 0 and row[7] == now]
            self.assertLessEqual(len(ours), 1)
            for row in ours:
                self.assertEqual(row[1], "hold" if now > start + time else "probe")
                seen.add(now)
            if probes and chance.below(4) == 0:
                poke(wires)
            hear_all(wires, sender=0)
            wires.tick()
        self.assertEqual(seen, expected)


class Hearing(unittest.TestCase):
    def two_probing(self, first, second):
        """Two hands that claim one name at one tick, of these marks, their letters not heard yet."""
        wires = wires_of(2, bounds=FREE, rule=rule_of(probes=1, wait=3, repeats=1))
        wires.claim(0, "a", first)
        wires.claim(1, "a", second)
        wires.tick()
        return wires

    def two_holding(self, first, second):
        """Two holders of these marks that meet on wire 0 by joining."""
        wires = Wires(FREE, rule_of(probes=1, wait=1, repeats=1, period=10))
        wires.come(0, 0)
        wires.come(1, 1)
        wires.claim(0, "a", first)
        wires.claim(1, "a", second)
        pass_ticks(wires, 4)
        wires.meet(0, 1)
        return wires

    def test_of_two_that_probe_the_lesser_rank_gives_way(self):
        for first, second, winner in ((5, 4, 0), (4, 5, 1), (5, 5, 1), (0, 999, 1), (10, 9, 0)):
            wires = self.two_probing(first, second)
            hear_all(wires)
            other = 1 - winner
            marks = (first, second)
            self.assertEqual(wires.claims_of(winner), [("a", marks[winner], 1, "probing", 0)])
            self.assertEqual(wires.claims_of(other), [])
            note = (1, "gives way", other, "a", marks[other], "probing", winner, "probe", marks[winner])
            self.assertEqual(wires.notes(), [note])
            pass_ticks(wires, 5)
            self.assertEqual(wires.who_holds("a"), [(0, winner)])
            self.assertEqual(wires.claims_of(other), [])

    def test_who_gave_way_answers_no_more_and_who_stays_answers(self):
        wires = self.two_probing(5, 4)
        hear_all(wires)
        self.assertEqual(sent_by(wires, 1), [])
        self.assertEqual(sent_by(wires, 0), [("probe", "a", 1)])
        wires.tick()
        self.assertEqual(sent_by(wires, 0), [("probe", "a", 1), ("probe", "a", 2)])

    def test_a_probing_claim_gives_way_to_a_hold_of_whatever_rank(self):
        for mark in (0, 5, 999):
            wires = wires_of(2, bounds=FREE, rule=rule_of(probes=1, wait=3))
            wires.claim(0, "a", 5)
            pass_ticks(wires, 4)
            wires.claim(1, "a", mark)
            pass_ticks(wires, 1)
            self.assertEqual(wires.claims_of(1), [])
            self.assertEqual(wires.notes()[1:], [(5, "gives way", 1, "a", mark, "probing", 0, "hold", 5)])

    def test_also_at_the_tick_at_whose_end_it_would_hold(self):
        wires = wires_of(2, bounds=FREE, rule=rule_of(probes=1, wait=0))
        wires.claim(0, "a", 5)
        pass_ticks(wires, 1)
        wires.tick()
        wires.claim(1, "a", 9)
        hear_all(wires)
        wires.tick()
        self.assertEqual(wires.who_holds("a"), [(0, 0)])
        self.assertEqual(wires.claims_of(1), [])

    def test_of_two_holders_the_lesser_rank_gives_way(self):
        for first, second, winner in ((5, 4, 0), (4, 5, 1), (5, 5, 1)):
            wires = self.two_holding(first, second)
            self.assertEqual(wires.doubles(), [(0, "a", (0, 1))])
            self.assertEqual(wires.who_holds("a"), [(0, 0), (0, 1)])
            pass_ticks(wires, 9)
            self.assertEqual(wires.who_holds("a"), [(0, winner)])
            self.assertEqual(wires.doubles(), [])
            marks = (first, second)
            note = ("gives way", 1 - winner, "a", marks[1 - winner], "holding", winner, "hold", marks[winner])
            self.assertEqual([row[1:] for row in wires.notes() if row[1] == "gives way"], [note])

    def test_a_holder_of_greater_rank_answers_a_hold(self):
        wires = self.two_holding(5, 4)
        while wires.now() < 13:
            wires.tick()
        self.assertEqual(sent_by(wires, 0) + sent_by(wires, 1), [("hold", "a", 12), ("hold", "a", 12)])
        hear_all(wires, to=0)
        self.assertEqual(wires.who_holds("a"), [(0, 0), (0, 1)])
        self.assertEqual(sent_by(wires, 0), [("hold", "a", 12), ("hold", "a", 13)])
        hear_all(wires, to=1)
        self.assertEqual(wires.who_holds("a"), [(0, 0)])
        wires.tick()
        self.assertEqual(sent_by(wires, 0), [("hold", "a", 13), ("hold", "a", 14)])

    def test_a_holder_gives_way_to_no_probe(self):
        wires = wires_of(2, bounds=FREE, rule=rule_of(probes=1, wait=0))
        wires.claim(0, "a", 0)
        pass_ticks(wires, 2)
        poke(wires, mark=999)
        pass_ticks(wires, 2)
        self.assertEqual(wires.who_holds("a"), [(0, 0)])

    def test_letters_about_other_names_change_no_claim(self):
        wires = wires_of(2, bounds=FREE, rule=rule_of(probes=1, wait=3))
        wires.claim(0, "a", 0, tries=2)
        wires.claim(1, "a2", 999)
        wires.claim(1, "b", 999)
        pass_ticks(wires, 6)
        self.assertEqual(wires.claims_of(0), [("a", 0, 2, "holding", 0)])

    def test_an_ask_changes_no_probing_claim(self):
        wires = wires_of(2, bounds=FREE, rule=rule_of(probes=1, gap=1, wait=9, repeats=2))
        wires.claim(0, "a", 0)
        wires.ask(1, "a")
        wires.ask_all(1)
        self.assertEqual(watch(wires, 6), [("probe", 0)])
        self.assertEqual(wires.claims_of(0), [("a", 0, 1, "probing", 0)])

    def test_a_gone_changes_no_claim(self):
        wires = wires_of(2, rule=rule_of(probes=1, wait=0))
        wires.claim(1, "a", 999)
        pass_ticks(wires, 1)
        wires.drop(1, "a")
        wires.tick()
        hear_all(wires, kind="hold")
        wires.claim(0, "a", 0)
        hear_all(wires)
        self.assertEqual(wires.claims_of(0), [("a", 0, 1, "probing", 2)])
        wires.tick()
        self.assertEqual(wires.claims_of(0), [("a", 0, 1, "holding", 2)])
        self.assertEqual([note[1] for note in wires.notes()], ["holds", "holds"])

    def test_a_hand_without_a_claim_answers_nothing(self):
        wires = wires_of(3, bounds=FREE, rule=rule_of(probes=1, wait=0))
        wires.claim(0, "a", 0)
        wires.tick()
        hear_all(wires, kind="probe")
        self.assertEqual(sent_by(wires, 1) + sent_by(wires, 2), [])


class GivingWay(unittest.TestCase):
    def beaten(self, name, tries, others=()):
        """Wires on which hand 0 claimed the name and gave way to a greater mark at tick 1."""
        wires = wires_of(2, bounds=FREE, rule=rule_of(probes=1, wait=3))
        for other in others:
            wires.claim(0, other, 5)
        wires.claim(0, name, 5, tries=tries)
        poke(wires, name=name, mark=9)
        wires.tick()
        hear_all(wires)
        return wires

    def test_with_one_try_nothing_follows(self):
        wires = self.beaten("a", 1)
        self.assertEqual(wires.claims_of(0), [])
        self.assertEqual(sent_by(wires, 0), [])

    def test_the_next_name_follows_with_one_try_less(self):
        for name, tries, follower in (("a", 2, "a2"), ("a", 9, "a2"), ("a2", 3, "a3"), ("a8", 2, "a9")):
            wires = self.beaten(name, tries)
            self.assertEqual(wires.claims_of(0), [(follower, 5, tries - 1, "probing", 1)])
            self.assertEqual(sent_by(wires, 0), [("probe", follower, 1)])
            self.assertEqual(wires.notes(), [(1, "gives way", 0, name, 5, "probing", 1, "probe", 9)])

    def test_behind_the_last_name_nothing_follows(self):
        self.assertEqual(self.beaten("a9", 9).claims_of(0), [])

    def test_nothing_follows_where_the_hand_claims_the_next_name(self):
        wires = self.beaten("a", 9, others=("a2", "a3"))
        self.assertEqual([row[:3] for row in wires.claims_of(0)], [("a2", 5, 1), ("a3", 5, 1)])

    def test_the_third_claim_may_go_on_by_its_next_name(self):
        wires = self.beaten("a", 2, others=("b", "c"))
        self.assertEqual([row[:3] for row in wires.claims_of(0)], [("a2", 5, 1), ("b", 5, 1), ("c", 5, 1)])

    def test_up_to_the_last_try(self):
        wires = wires_of(2, bounds=FREE, rule=rule_of(probes=1, wait=3))
        wires.claim(0, "a", 5, tries=3)
        for name in ("a", "a2", "a3"):
            self.assertEqual([row[0] for row in wires.claims_of(0)], [name])
            poke(wires, name=name, mark=9)
            pass_ticks(wires, 1)
        self.assertEqual(wires.claims_of(0), [])
        self.assertEqual([note[3] for note in wires.notes()], ["a", "a2", "a3"])

    def test_a_holder_that_gives_way_goes_on_by_its_next_name(self):
        wires = Wires(FREE, rule_of(probes=1, wait=1, repeats=1, period=10))
        wires.come(0, 0)
        wires.come(1, 1)
        wires.claim(0, "a", 5, tries=2)
        wires.claim(1, "a", 6, tries=2)
        pass_ticks(wires, 4)
        wires.meet(0, 1)
        pass_ticks(wires, 14)
        self.assertEqual(wires.who_holds("a"), [(0, 1)])
        self.assertEqual(wires.who_holds("a2"), [(0, 0)])
        self.assertEqual(wires.claims_of(0)[0][2:4], (1, "holding"))

    def test_without_probes_the_next_name_sends_nothing_at_once(self):
        wires = Wires(FREE, rule_of(probes=0, wait=1, period=10))
        wires.come(0, 0)
        wires.come(1, 0)
        wires.claim(1, "a", 6)
        pass_ticks(wires, 2)
        wires.claim(0, "a", 5, tries=2)
        self.assertEqual(letters(wires), [("hold", 1, 0, "a")])
        pass_ticks(wires, 1)
        self.assertEqual(wires.claims_of(0), [("a2", 5, 1, "probing", 3)])
        self.assertEqual(sent_by(wires, 0), [])


class Dropping(unittest.TestCase):
    def test_while_probing_no_letter_is_sent(self):
        wires = wires_of(2)
        wires.claim(0, "a", 5)
        wires.drop(0, "a")
        self.assertEqual(sent_by(wires, 0), [("probe", "a", 0)])
        self.assertEqual(wires.claims_of(0), [])
        self.assertEqual(watch(wires, 20), [("probe", 0)])
        self.assertEqual(wires.notes(), [])

    def test_while_holding_a_letter_gone_is_sent(self):
        wires = wires_of(3, rule=rule_of(probes=1, wait=0, repeats=2))
        wires.claim(0, "a", 5)
        pass_ticks(wires, 3)
        self.assertEqual(wires.who_holds("a"), [(0, 0)])
        wires.drop(0, "a")
        self.assertEqual(letters(wires), [("gone", 0, 1, "a"), ("gone", 0, 2, "a")])
        self.assertEqual([row[5] for row in wires.way()], [0, 0])
        self.assertEqual(wires.claims_of(0), [])
        self.assertEqual(wires.who_holds("a"), [])
        pass_ticks(wires, 60)
        self.assertEqual(wires.way(), [])
        self.assertEqual(len(wires.notes()), 1)

    def test_a_gone_is_sent_also_at_a_tick_of_a_hold(self):
        wires = wires_of(2, bounds=BOUNDS, rule=rule_of(probes=0))
        wires.claim(0, "a", 5)
        wires.tick()
        wires.drop(0, "a")
        self.assertEqual(sent_by(wires, 0), [("hold", "a", 1), ("gone", "a", 1)])

    def test_what_isnt_claimed_is_refused(self):
        wires = wires_of(2)
        wires.claim(0, "a", 5)
        before = told(wires)
        for hand, name in ((0, "b"), (1, "a"), (0, "a2")):
            with self.assertRaises(NoClaim):
                wires.drop(hand, name)
        self.assertEqual(told(wires), before)


if __name__ == "__main__":
    unittest.main()
