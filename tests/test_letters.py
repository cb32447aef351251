"""Letters and copies [9], handing over and losing [10], ticks [11], threads [6]."""

import unittest

from tests.helper import any_things, BOUNDS, hear_all, letters, numbers, rule_of, told, wires_of
from wirenames.errors import Came, Due, Early, NoLetter, Owed
from wirenames.rules import Bounds
from wirenames.wires import Wires


def send_probes(wires, hand, name, many):
    """Letters `probe` of one thread at one tick; the last claim is dropped, too."""
    for _ in range(many):
        wires.claim(hand, name, 5)
        wires.drop(hand, name)


class Copies(unittest.TestCase):
    def test_one_for_each_other_hand_on_the_wire_the_least_first(self):
        wires = Wires(BOUNDS, rule_of())
        for hand, wire in ((3, 1), (0, 1), (2, 1), (5, 0)):
            wires.come(hand, wire)
        wires.claim(2, "ab", 7)
        wires.claim(0, "x", 0)
        wires.claim(5, "ab", 9)
        self.assertEqual(
            wires.way(),
            [
                (0, "probe", 2, 0, "ab", 7, (), 0, False),
                (1, "probe", 2, 3, "ab", 7, (), 0, False),
                (2, "probe", 0, 2, "x", 0, (), 0, False),
                (3, "probe", 0, 3, "x", 0, (), 0, False),
            ],
        )
        self.assertEqual(len(wires), 4)

    def test_numbers_go_on_whatever_is_gone(self):
        wires = wires_of(2)
        send_probes(wires, 0, "a", 1)
        wires.lose(0)
        wires.ask_all(0)
        self.assertEqual(numbers(wires), [1])
        wires.tick()
        wires.hand_over(1)
        self.assertEqual(numbers(wires), [2])
        wires.ask_all(1)
        self.assertEqual(numbers(wires), [2, 3])

    def test_marks_and_names_of_each_kind(self):
        wires = wires_of(2, rule=rule_of(probes=1, wait=0))
        wires.claim(0, "a", 7)
        wires.ask(0, "b")
        wires.ask_all(0)
        wires.tick()
        wires.drop(0, "a")
        self.assertEqual(
            wires.way(),
            [
                (0, "probe", 0, 1, "a", 7, (), 0, False),
                (1, "ask", 0, 1, "b", 0, (), 0, False),
                (2, "ask", 0, 1, "", 0, (), 0, False),
                (3, "hold", 0, 1, "a", 7, (), 1, False),
                (4, "gone", 0, 1, "a", 0, (), 1, False),
            ],
        )

    def test_only_who_stands_there_then(self):
        wires = wires_of(1)
        wires.ask_all(0)
        wires.come(1, 0)
        wires.come(2, 1)
        self.assertEqual(wires.way(), [])
        wires.ask_all(0)
        self.assertEqual(letters(wires), [("ask", 0, 1, "")])
        wires.meet(0, 1)
        self.assertEqual(len(wires), 1)
        wires.ask_all(0)
        self.assertEqual(letters(wires), [("ask", 0, 1, ""), ("ask", 0, 1, ""), ("ask", 0, 2, "")])

    def test_a_hand_alone_makes_no_copy_and_no_number(self):
        wires = wires_of(1)
        wires.claim(0, "a", 1)
        wires.come(1, 0)
        wires.ask_all(1)
        self.assertEqual(numbers(wires), [0])


class HandingOver(unittest.TestCase):
    def test_not_at_the_tick_of_its_sending(self):
        wires = wires_of(3)
        wires.claim(0, "a", 5)
        before = told(wires)
        for keep in (False, True):
            with self.assertRaises(Early) as refused:
                wires.hand_over(1, keep=keep)
            self.assertEqual(refused.exception.number, 1)
            self.assertEqual(told(wires), before)
        wires.tick()
        wires.hand_over(1)
        self.assertEqual(numbers(wires, sent=0), [0])

    def test_handed_over_it_is_gone(self):
        wires = wires_of(2)
        wires.ask_all(0)
        wires.tick()
        wires.hand_over(0)
        with self.assertRaises(NoLetter) as refused:
            wires.hand_over(0)
        self.assertEqual(refused.exception.number, 0)
        with self.assertRaises(NoLetter):
            wires.lose(0)

    def test_up_to_late_ticks_behind(self):
        wires = wires_of(2, bounds=Bounds(lost=0, late=3), rule=rule_of())
        wires.ask_all(0)
        for _ in range(3):
            wires.tick()
        with self.assertRaises(Due):
            wires.tick()
        wires.hand_over(0)
        wires.tick()
        self.assertEqual(wires.now(), 4)

    def test_kept_it_has_come_and_may_come_again(self):
        wires = wires_of(2, rule=rule_of(repeats=0))
        wires.ask_all(0)
        wires.tick()
        wires.hand_over(0, keep=True)
        self.assertEqual(wires.way(), [(0, "ask", 0, 1, "", 0, (), 0, True)])
        wires.hand_over(0, keep=True)
        self.assertEqual(len(wires), 1)
        wires.hand_over(0)
        self.assertEqual(wires.way(), [])

    def test_a_kept_copy_is_heard_again(self):
        wires = wires_of(2, rule=rule_of(probes=0))
        wires.claim(0, "a", 5)
        wires.tick()
        wires.tick()
        wires.hand_over(0, keep=True)
        self.assertEqual(wires.known_of(1, "a"), (0, 5, 2))
        wires.tick()
        self.assertEqual(wires.known_of(1, "a"), (0, 5, 3))
        wires.hand_over(0)
        self.assertEqual(wires.known_of(1, "a"), (0, 5, 2))

    def test_a_kept_copy_is_away_behind_late_ticks(self):
        wires = wires_of(2, rule=rule_of(repeats=0))
        wires.ask_all(0)
        wires.tick()
        wires.hand_over(0, keep=True)
        wires.tick()
        self.assertEqual(numbers(wires, come=True), [0])
        wires.hand_over(0, keep=True)
        wires.tick()
        self.assertEqual(wires.way(), [])
        with self.assertRaises(NoLetter):
            wires.hand_over(0)

    def test_a_copy_from_a_hand_that_went_off_is_heard(self):
        wires = wires_of(2, rule=rule_of(probes=0))
        wires.claim(0, "a", 5)
        wires.tick()
        wires.go(0)
        self.assertEqual(letters(wires), [("hold", 0, 1, "a")])
        wires.tick()
        wires.hand_over(0)
        self.assertEqual(wires.known_of(1, "a"), (0, 5, 2))

    def test_copies_for_a_hand_that_goes_off_are_away(self):
        wires = wires_of(3)
        wires.claim(0, "a", 5)
        wires.claim(1, "b", 5)
        wires.go(1)
        self.assertEqual(letters(wires), [("probe", 0, 2, "a"), ("probe", 1, 0, "b"), ("probe", 1, 2, "b")])
        wires.come(1, 0)
        self.assertEqual(numbers(wires, to=1), [])
        with self.assertRaises(NoLetter):
            wires.lose(0)

    def test_joining_and_parting_leave_copies_as_they_are(self):
        wires = wires_of(3)
        wires.claim(0, "a", 5)
        before = wires.way()
        wires.part(0, [0, 2], 3)
        self.assertEqual(wires.way(), before)
        wires.meet(1, 0)
        wires.meet(2, 3)
        self.assertEqual(wires.way(), before)
        wires.tick()
        wires.hand_over(0)
        self.assertEqual(numbers(wires, sent=0), [1])

    def test_no_letter_of_things_that_are_no_numbers_on_their_way(self):
        wires = wires_of(3)
        wires.ask_all(0)
        wires.tick()
        before = told(wires)
        for thing in any_things() + [99, "1", [1], (1,)]:
            for call in (wires.hand_over, wires.lose):
                with self.assertRaises(NoLetter) as refused:
                    call(thing)
                self.assertEqual(refused.exception.number, thing)
                self.assertIs(type(refused.exception.number), type(thing))
        self.assertEqual(told(wires), before)

    def test_keep_is_handed_in_by_name(self):
        wires = wires_of(2)
        wires.ask_all(0)
        wires.tick()
        with self.assertRaises(TypeError):
            wires.hand_over(0, True)


class Losing(unittest.TestCase):
    def test_a_lost_copy_goes_unheard(self):
        wires = wires_of(2, rule=rule_of(probes=0))
        wires.claim(0, "a", 5)
        wires.tick()
        wires.lose(0)
        self.assertEqual(wires.way(), [])
        wires.tick()
        self.assertIsNone(wires.known_of(1, "a"))

    def test_at_the_tick_of_its_sending_too(self):
        wires = wires_of(2)
        wires.ask_all(0)
        wires.lose(0)
        self.assertEqual(len(wires), 0)

    def test_not_one_that_came(self):
        wires = wires_of(2)
        wires.ask_all(0)
        wires.tick()
        wires.hand_over(0, keep=True)
        before = told(wires)
        with self.assertRaises(Came) as refused:
            wires.lose(0)
        self.assertEqual(refused.exception.number, 0)
        self.assertEqual(told(wires), before)

    def test_came_is_told_ahead_of_owed(self):
        wires = wires_of(2, bounds=Bounds(lost=0, late=2))
        wires.ask_all(0)
        wires.tick()
        wires.hand_over(0, keep=True)
        with self.assertRaises(Came):
            wires.lose(0)

    def test_none_where_none_may_be_lost(self):
        wires = wires_of(2, bounds=Bounds(lost=0, late=2))
        wires.ask_all(0)
        before = told(wires)
        with self.assertRaises(Owed) as refused:
            wires.lose(0)
        self.assertEqual(refused.exception.number, 0)
        self.assertEqual(told(wires), before)

    def test_so_many_in_a_row_as_may_be_lost(self):
        for lost in range(4):
            wires = wires_of(2, bounds=Bounds(lost=lost, late=2), rule=rule_of())
            send_probes(wires, 0, "a", lost + 2)
            for number in range(lost):
                wires.lose(number)
            with self.assertRaises(Owed):
                wires.lose(lost)
            if lost:
                wires.lose(lost + 1)

    def test_a_gap_in_the_row_that_is_closed_later(self):
        wires = wires_of(2, bounds=Bounds(lost=2, late=2), rule=rule_of())
        send_probes(wires, 0, "a", 5)
        for number in (0, 2, 4):
            wires.lose(number)
        for number in (1, 3):
            with self.assertRaises(Owed) as refused:
                wires.lose(number)
            self.assertEqual(refused.exception.number, number)
        self.assertEqual(numbers(wires), [1, 3])

    def test_rows_are_counted_to_both_sides(self):
        for order in ((0, 1, 2), (2, 1, 0), (0, 2, 1), (1, 0, 2), (1, 2, 0), (2, 0, 1)):
            wires = wires_of(2, bounds=Bounds(lost=2, late=2), rule=rule_of())
            send_probes(wires, 0, "a", 3)
            wires.lose(order[0])
            wires.lose(order[1])
            with self.assertRaises(Owed):
                wires.lose(order[2])

    def test_a_copy_that_came_breaks_the_row_also_when_it_is_gone(self):
        for keep in (False, True):
            wires = wires_of(2)
            send_probes(wires, 0, "a", 3)
            wires.tick()
            wires.hand_over(1, keep=keep)
            wires.lose(0)
            wires.lose(2)

    def test_a_copy_on_its_way_breaks_the_row(self):
        for first, second in ((0, 2), (2, 0)):
            wires = wires_of(2)
            send_probes(wires, 0, "a", 3)
            wires.lose(first)
            wires.lose(second)
            with self.assertRaises(Owed):
                wires.lose(1)


class Threads(unittest.TestCase):
    def lose_both(self, wires, first, second):
        wires.lose(first)
        wires.lose(second)

    def owed(self, wires, first, second):
        wires.lose(first)
        before = told(wires)
        with self.assertRaises(Owed) as refused:
            wires.lose(second)
        self.assertEqual(refused.exception.number, second)
        self.assertEqual(told(wires), before)

    def test_asks_stand_by_themselves(self):
        wires = wires_of(2)
        wires.claim(0, "a", 5)
        wires.ask(0, "a")
        wires.tick()
        self.assertEqual(letters(wires), [("probe", 0, 1, "a"), ("ask", 0, 1, "a")] * 2)
        wires.lose(0)
        wires.lose(1)
        for number in (2, 3):
            with self.assertRaises(Owed):
                wires.lose(number)

    def test_all_other_kinds_stand_together(self):
        wires = wires_of(2, rule=rule_of(probes=1))
        wires.claim(0, "a", 5)
        wires.tick()
        wires.drop(0, "a")
        self.assertEqual(letters(wires), [("probe", 0, 1, "a"), ("hold", 0, 1, "a"), ("gone", 0, 1, "a")])
        self.owed(wires, 0, 1)
        wires.lose(2)
        with self.assertRaises(Owed):
            wires.lose(1)

    def test_hold_and_gone_stand_together(self):
        wires = wires_of(2, rule=rule_of(probes=0))
        wires.claim(0, "a", 5)
        wires.tick()
        wires.drop(0, "a")
        self.assertEqual(letters(wires), [("hold", 0, 1, "a"), ("gone", 0, 1, "a")])
        self.owed(wires, 1, 0)

    def test_asks_for_all_names_are_a_thread(self):
        wires = wires_of(2)
        wires.ask_all(0)
        wires.ask(0, "a")
        wires.ask_all(0)
        wires.lose(1)
        self.owed(wires, 0, 2)

    def test_each_name_has_its_own(self):
        wires = wires_of(2)
        wires.claim(0, "a", 5)
        wires.claim(0, "a2", 5)
        self.lose_both(wires, 0, 1)

    def test_each_pair_of_hands_has_its_own(self):
        wires = wires_of(3)
        wires.claim(0, "a", 5)
        wires.claim(1, "a", 5)
        self.assertEqual([row[2:4] for row in wires.way()], [(0, 1), (0, 2), (1, 0), (1, 2)])
        for number in range(4):
            wires.lose(number)

    def test_begun_anew_when_the_sender_comes(self):
        wires = wires_of(2)
        send_probes(wires, 0, "a", 1)
        wires.go(0)
        wires.come(0, 0)
        send_probes(wires, 0, "a", 1)
        self.lose_both(wires, 0, 1)

    def test_begun_anew_when_the_one_that_hears_comes(self):
        wires = wires_of(2)
        send_probes(wires, 0, "a", 1)
        wires.lose(0)
        wires.go(1)
        wires.come(1, 0)
        send_probes(wires, 0, "a", 1)
        wires.lose(1)

    def test_begun_anew_also_on_another_wire(self):
        wires = wires_of(2)
        send_probes(wires, 0, "a", 1)
        wires.lose(0)
        wires.go(0)
        wires.come(0, 3)
        wires.meet(0, 3)
        send_probes(wires, 0, "a", 1)
        wires.lose(1)

    def test_not_begun_anew_when_a_third_hand_comes_or_goes(self):
        wires = wires_of(2)
        send_probes(wires, 0, "a", 1)
        wires.come(2, 0)
        wires.go(2)
        wires.come(2, 0)
        send_probes(wires, 0, "a", 1)
        self.owed(wires, 0, 1)

    def test_not_begun_anew_by_joining_and_parting(self):
        for moved in (0, 1):
            wires = wires_of(2)
            send_probes(wires, 0, "a", 1)
            wires.part(0, [moved], 1)
            wires.meet(0, 1)
            send_probes(wires, 0, "a", 1)
            wires.part(0, [0, 1], 2)
            self.owed(wires, 0, 1)

    def test_a_copy_stays_in_the_thread_that_it_was_sent_in(self):
        wires = wires_of(2)
        send_probes(wires, 0, "a", 2)
        wires.go(0)
        wires.come(0, 0)
        send_probes(wires, 0, "a", 2)
        wires.lose(2)
        wires.lose(1)
        for number in (0, 3):
            with self.assertRaises(Owed):
                wires.lose(number)

    def test_a_thread_goes_on_while_nothing_is_on_its_way(self):
        wires = wires_of(2)
        send_probes(wires, 0, "a", 1)
        wires.lose(0)
        for _ in range(20):
            wires.tick()
        send_probes(wires, 0, "a", 1)
        with self.assertRaises(Owed):
            wires.lose(1)


class Ticks(unittest.TestCase):
    def test_from_nought_on(self):
        wires = wires_of(1)
        for tick in range(5):
            self.assertEqual(wires.now(), tick)
            wires.tick()

    def test_due_with_the_numbers_of_all_that_must_come(self):
        wires = wires_of(4, rule=rule_of(repeats=0))
        wires.ask_all(0)
        wires.tick()
        wires.ask_all(1)
        wires.hand_over(1, keep=True)
        wires.tick()
        before = told(wires)
        with self.assertRaises(Due) as refused:
            wires.tick()
        self.assertEqual(refused.exception.numbers, (0, 2))
        self.assertIsInstance(refused.exception.numbers, tuple)
        self.assertEqual(told(wires), before)
        wires.lose(2)
        with self.assertRaises(Due) as refused:
            wires.tick()
        self.assertEqual(refused.exception.numbers, (0,))
        wires.hand_over(0)
        wires.tick()
        self.assertEqual(numbers(wires), [3, 4, 5])

    def test_due_from_late_ticks_on(self):
        for late in range(1, 6):
            wires = wires_of(2, bounds=Bounds(lost=0, late=late), rule=rule_of(repeats=0))
            wires.ask_all(0)
            for _ in range(late):
                wires.tick()
            with self.assertRaises(Due):
                wires.tick()
            self.assertEqual(wires.now(), late)

    def test_what_is_due_stops_holding_and_letters_too(self):
        wires = wires_of(2, bounds=Bounds(lost=0, late=1), rule=rule_of(probes=1, wait=1))
        wires.claim(0, "a", 5)
        wires.tick()
        with self.assertRaises(Due):
            wires.tick()
        self.assertEqual(wires.who_holds("a"), [])
        self.assertEqual(wires.notes(), [])
        hear_all(wires)
        wires.tick()
        self.assertEqual(wires.who_holds("a"), [(0, 0)])

    def test_letters_hand_by_hand_claims_then_askings_by_names(self):
        wires = wires_of(2, rule=rule_of(probes=3, gap=2, wait=3, repeats=2))
        for name in ("d", "c2", "c"):
            wires.ask(1, name)
        for name in ("x2", "b", "x"):
            wires.claim(1, name, 5)
        wires.ask_all(1)
        wires.ask(0, "q")
        wires.claim(0, "z", 5)
        wires.ask_all(0)
        wires.tick()
        hear_all(wires)
        self.assertEqual(wires.way(), [])
        wires.tick()
        self.assertEqual(
            letters(wires),
            [
                ("probe", 0, 1, "z"),
                ("ask", 0, 1, ""),
                ("ask", 0, 1, "q"),
                ("probe", 1, 0, "b"),
                ("probe", 1, 0, "x"),
                ("probe", 1, 0, "x2"),
                ("ask", 1, 0, ""),
                ("ask", 1, 0, "c"),
                ("ask", 1, 0, "c2"),
                ("ask", 1, 0, "d"),
            ],
        )
        self.assertEqual({row[7] for row in wires.way()}, {2})

    def test_an_old_copy_is_away_and_a_younger_one_stays(self):
        wires = wires_of(2, bounds=Bounds(lost=0, late=1), rule=rule_of(repeats=1))
        wires.ask_all(0)
        wires.tick()
        wires.hand_over(0, keep=True)
        wires.tick()
        self.assertEqual(letters(wires), [("ask", 0, 1, "")])
        self.assertEqual(numbers(wires), [1])


if __name__ == "__main__":
    unittest.main()
