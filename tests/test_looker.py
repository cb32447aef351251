"""The looker [24]: True of papers that are so, whoever wrote them, and False of any other thing."""

import copy
import unittest
from unittest import mock

from tests import oracle
from tests.helper import any_things, BOUNDS, Chance, LEAST, LONG
from tests.walks import NAMES, walked
from wirenames.looker import holds
from wirenames.wires import Wires

# A claim holds at the end of its tick, without a probe.
EXACT = (0, 1)
HASTY = (0, 1, 0, 0, 2, 4)

COMING = [("come", 0, 0), ("come", 1, 0)]
BOTH = COMING + [("claim", 0, "a", 5, 1), ("claim", 1, "a", 6, 1), ("tick",)]
ALONE = COMING + [("claim", 0, "a", 5, 1), ("tick",), ("tick",), ("hand over", 0)]

TWO = ("two", EXACT, HASTY, BOTH, 0, "a")
ONE = ("one", EXACT, HASTY, ALONE)
KNOWN = ("known", EXACT, HASTY, ALONE, 1, "a", 1, 0, 5)


def put(paper, at, thing):
    """The paper with another thing at this place."""
    return paper[:at] + (thing,) + paper[at + 1 :]


class Checked(unittest.TestCase):
    def is_so(self, paper):
        self.assertIs(holds(paper), True, paper)
        self.assertTrue(oracle.is_so(paper), paper)

    def is_not(self, paper):
        self.assertIs(holds(paper), False, paper)
        self.assertFalse(oracle.is_so(paper), paper)


class RightPapers(Checked):
    def test_of_each_kind(self):
        self.is_so(TWO)
        self.is_so(ONE)
        self.is_so(KNOWN)

    def test_the_paper_stays_as_it_was(self):
        for paper in (TWO, ONE, KNOWN, put(ONE, 3, BOTH), put(TWO, 3, [[], {}])):
            before = copy.deepcopy(paper)
            first = holds(paper)
            self.assertEqual(paper, before)
            self.assertIs(holds(paper), first)

    def test_by_name(self):
        self.assertIs(holds(paper=ONE), True)

    def test_by_a_rule_that_is_enough_and_by_one_that_is_not(self):
        self.is_so(("one", (1, 2), (2, 1, 5, 1, 8, 12), []))
        self.is_so(("one", (1, 2), (0, 1, 0, 0, 2, 8), []))


class AnyThing(unittest.TestCase):
    def test_is_answered(self):
        things = any_things() + [0, "two", "one", "known", ["one"], ("one",), ("two",), ("known",), list(ONE), [ONE]]
        for thing in things + [(ONE,), (TWO, ONE), str(ONE), [("tick",)] * 50000, tuple(range(50000))]:
            self.assertIs(holds(thing), False, type(thing))

    def test_in_each_place_of_a_paper(self):
        things = any_things() + [0, 1, 2, 5, 8, "a", "b", "two", ("tick",), [("tick",)], [None] * 2001]
        for paper in (TWO, ONE, KNOWN):
            for at, right in enumerate(paper):
                for thing in things:
                    changed = put(paper, at, thing)
                    if type(thing) is type(right) and thing == right:
                        self.assertIs(holds(changed), True)
                    else:
                        self.assertIs(holds(changed), oracle.is_so(changed), (changed[0], at, thing))

    def test_what_is_left_of_these(self):
        """No other thing in a place of these papers is let by but another script that is so, too."""
        for paper in (TWO, ONE, KNOWN):
            for at in range(len(paper)):
                for thing in any_things() + [None, (paper[at],), [paper[at]]]:
                    as_it_was = thing == paper[at] and type(thing) is type(paper[at])
                    empty = paper == ONE and at == 3 and thing == []
                    self.assertIs(holds(put(paper, at, thing)), as_it_was or empty, (paper[0], at, thing))

    def test_in_each_place_of_a_script(self):
        for paper in (TWO, ONE, KNOWN):
            for at in range(len(paper[3])):
                for thing in any_things():
                    script = paper[3][:at] + [thing] + paper[3][at + 1 :]
                    self.assertIs(holds(put(paper, 3, script)), False)

    def test_in_each_place_of_a_call(self):
        for paper in (TWO, ONE, KNOWN):
            for at, call in enumerate(paper[3]):
                for place in range(len(call)):
                    for thing in any_things():
                        script = list(paper[3])
                        script[at] = put(call, place, thing)
                        self.assertIs(holds(put(paper, 3, script)), False, (at, place, thing))


class Forms(Checked):
    def test_a_part_more_or_less(self):
        for paper in (TWO, ONE, KNOWN):
            self.is_not(paper[:-1])
            self.is_not(paper + (0,))
            self.is_not(paper + (None,))
            self.is_not(paper[1:])
            self.is_not(list(paper))

    def test_the_word(self):
        for paper in (TWO, ONE, KNOWN):
            for word in ("two", "one", "known", "One", "one ", "", "holds", None, 1):
                if word != paper[0]:
                    self.is_not(put(paper, 0, word))

    def test_lists_for_tuples_and_tuples_for_lists(self):
        for paper in (TWO, ONE, KNOWN):
            self.is_not(put(paper, 1, list(EXACT)))
            self.is_not(put(paper, 2, list(HASTY)))
            self.is_not(put(paper, 3, tuple(paper[3])))
            for at, call in enumerate(paper[3]):
                script = list(paper[3])
                script[at] = list(call)
                self.is_not(put(paper, 3, script))

    def test_truths_for_numbers(self):
        for paper in (TWO, ONE, KNOWN):
            self.is_not(put(paper, 1, (False, 1)))
            self.is_not(put(paper, 1, (0, True)))
            for at, part in enumerate(HASTY):
                if part in (0, 1):
                    self.is_not(put(paper, 2, put(HASTY, at, bool(part))))
            for at, part in enumerate(paper):
                if type(part) is int and part in (0, 1):
                    self.is_not(put(paper, at, bool(part)))
            for at, call in enumerate(paper[3]):
                for place, part in enumerate(call):
                    if type(part) is int and part in (0, 1):
                        script = list(paper[3])
                        script[at] = put(call, place, bool(part))
                        self.is_not(put(paper, 3, script))

    def test_a_truth_for_a_mark_of_one(self):
        script = [("claim", 0, "a", 1, 1) if call[0] == "claim" else call for call in ALONE]
        paper = ("known", EXACT, HASTY, script, 1, "a", 1, 0, 1)
        self.is_so(paper)
        self.is_not(put(paper, 8, True))
        self.is_not(put(paper, 6, True))

    def test_bounds_and_rules_that_are_none(self):
        for bounds in ((), (0,), (0, 1, 2), (4, 1), (0, 0), (0, 6), (-1, 1), ("0", 1), (0, None), BOUNDS, "(0, 1)"):
            self.is_not(put(ONE, 1, bounds))
        for at, beyond in enumerate((10, 6, 100, 10, 401, 401)):
            self.is_not(put(ONE, 2, put(HASTY, at, beyond)))
            self.is_not(put(ONE, 2, put(HASTY, at, -1)))
            self.is_not(put(ONE, 2, put(HASTY, at, str(HASTY[at]))))
            self.is_not(put(ONE, 2, put(HASTY, at, LONG[0])))
        for rule in ((), HASTY[:-1], HASTY + (1,), LEAST, "Rule(0 1 0 0 2 4)", None):
            self.is_not(put(ONE, 2, rule))

    def test_a_rule_whose_period_is_too_little(self):
        self.is_not(put(ONE, 2, (0, 1, 0, 0, 1, 4)))
        self.is_so(("one", EXACT, (0, 1, 2, 0, 4, 4), COMING))
        self.is_not(("one", EXACT, (0, 1, 2, 0, 3, 4), COMING))

    def test_a_rule_that_does_not_fit_its_bounds(self):
        self.is_not(put(ONE, 2, (0, 1, 0, 0, 2, 3)))
        self.is_not(put(TWO, 2, (0, 1, 0, 0, 2, 3)))
        self.is_not(put(KNOWN, 2, (0, 1, 0, 0, 2, 3)))
        self.is_not(("one", (0, 2), HASTY, COMING))
        self.is_so(("one", (0, 2), (0, 1, 0, 0, 2, 8), COMING))

    def test_how_long_a_script_is(self):
        self.is_so(("one", EXACT, HASTY, [("tick",)] * 2000))
        self.is_not(("one", EXACT, HASTY, [("tick",)] * 2001))
        self.is_so(put(TWO, 3, [("tick",)] * (2000 - len(BOTH)) + BOTH))
        self.is_not(put(TWO, 3, [("tick",)] * (2001 - len(BOTH)) + BOTH))
        self.is_so(put(KNOWN, 3, [("tick",)] * (2000 - len(ALONE)) + ALONE))
        self.is_not(put(KNOWN, 3, [("tick",)] * (2001 - len(ALONE)) + ALONE))


class Two(Checked):
    def test_another_wire_or_name(self):
        for wire in (1, 2, 3, 4, -1, "0", None):
            self.is_not(put(TWO, 4, wire))
        for name in ("b", "a2", "", "A", None, ["a"], 0):
            self.is_not(put(TWO, 5, name))

    def test_on_another_wire(self):
        script = [("come", call[1], 3) if call[0] == "come" else call for call in BOTH]
        self.is_so(("two", EXACT, HASTY, script, 3, "a"))
        self.is_not(("two", EXACT, HASTY, script, 0, "a"))

    def test_on_wire_one_true_is_no_one(self):
        script = [("come", call[1], 1) if call[0] == "come" else call for call in BOTH]
        self.is_so(("two", EXACT, HASTY, script, 1, "a"))
        self.is_not(("two", EXACT, HASTY, script, True, "a"))

    def test_three_hold(self):
        script = [("come", 2, 0), ("claim", 2, "a", 6, 1)] + BOTH
        self.is_so(put(TWO, 3, script))

    def test_one_alone_or_none(self):
        self.is_not(put(TWO, 3, ALONE))
        self.is_not(put(TWO, 3, []))
        self.is_not(put(TWO, 3, BOTH[:-1]))

    def test_on_two_wires(self):
        script = [("come", 1, 1) if call == ("come", 1, 0) else call for call in BOTH]
        self.is_not(put(TWO, 3, script))
        self.is_not(("two", EXACT, HASTY, script, 1, "a"))

    def test_by_joining(self):
        apart = [("come", 1, 1) if call == ("come", 1, 0) else call for call in BOTH]
        self.is_not(put(TWO, 3, apart + [("join", 0, 1)]))

    def test_with_any_join_at_all(self):
        for at in range(len(BOTH) + 1):
            self.is_not(put(TWO, 3, BOTH[:at] + [("join", 0, 3)] + BOTH[at:]))

    def test_with_a_part(self):
        self.is_not(put(TWO, 3, BOTH + [("part", 0, (1,), 2)]))
        self.is_so(("two", EXACT, HASTY, BOTH + [("part", 0, (0, 1), 2)], 2, "a"))

    def test_two_held_but_do_so_no_more(self):
        self.is_not(put(TWO, 3, BOTH + [("drop", 0, "a")]))
        self.is_not(put(TWO, 3, BOTH + [("go", 1)]))
        self.is_so(put(TWO, 3, BOTH + [("ask all", 1)]))

    def test_a_call_left_out_told_twice_or_exchanged(self):
        for at in range(len(BOTH)):
            self.is_not(put(TWO, 3, BOTH[:at] + BOTH[at + 1 :]))
        for at in range(len(BOTH) - 1):
            self.is_not(put(TWO, 3, BOTH[: at + 1] + BOTH[at:]))
        self.is_so(put(TWO, 3, [BOTH[at] for at in (1, 0, 3, 2, 4)]))
        self.is_not(put(TWO, 3, [BOTH[at] for at in (0, 1, 2, 4, 3)]))

    def test_by_a_rule_that_is_enough(self):
        self.is_not(put(TWO, 2, (1, 1, 2, 0, 4, 4)))


class One(Checked):
    def test_the_empty_script(self):
        self.is_so(("one", EXACT, HASTY, []))

    def test_two_behind_the_last_call(self):
        self.is_not(put(ONE, 3, BOTH))

    def test_two_behind_some_call_and_no_more_behind_the_last(self):
        for call in (("drop", 0, "a"), ("go", 1), ("part", 0, (1,), 2)):
            self.is_not(put(ONE, 3, BOTH + [call]))
            self.is_not(put(ONE, 3, BOTH + [call, ("ask all", 0)]))

    def test_two_on_two_wires(self):
        script = [("come", 1, 1) if call == ("come", 1, 0) else call for call in BOTH]
        self.is_so(put(ONE, 3, script))
        self.is_not(put(ONE, 3, script + [("join", 0, 1)]))
        self.is_not(put(ONE, 3, script + [("join", 0, 1), ("part", 0, (0,), 1)]))

    def test_joining_is_no_harm_by_itself(self):
        self.is_so(put(ONE, 3, ALONE + [("join", 0, 1), ("join", 1, 0)]))

    def test_a_call_that_is_refused(self):
        for call in (("come", 0, 0), ("go", 5), ("lose", 0), ("tick", 0), None):
            for at in range(1, len(ALONE) + 1):
                self.is_not(put(ONE, 3, ALONE[:at] + [call] + ALONE[at:]))


class Known(Checked):
    def test_each_part_by_itself(self):
        for at, others in {
            4: (0, 2, 7, 8, -1, "1", None),
            5: ("b", "a2", "", None, 0, ["a"]),
            6: (0, 2, 3, -1, LONG[0], "1", None),
            7: (1, 2, 7, 8, -1, "0", None),
            8: (0, 4, 6, 999, 1000, -1, "5", None),
        }.items():
            for other in others:
                self.is_not(put(KNOWN, at, other))

    def test_what_a_hand_knows_by_itself_is_no_paper(self):
        self.is_not(("known", EXACT, HASTY, ALONE, 0, "a", 0, 0, 5))
        self.is_not(("known", EXACT, HASTY, ALONE, 1, "a", 1, 1, 5))

    def test_the_age_grows(self):
        # Copy 1 was sent at tick 3, is heard at tick 4, and is told at tick 6.
        script = ALONE + [("tick",), ("tick",), ("hand over", 1), ("go", 0), ("tick",), ("tick",)]
        for age in range(6):
            paper = put(put(KNOWN, 3, script), 6, age)
            (self.is_so if age == 3 else self.is_not)(paper)

    def test_as_long_as_it_is_known(self):
        gone = ALONE + [("go", 0)]
        for ticks in range(8):
            paper = put(put(KNOWN, 3, gone + [("tick",)] * ticks), 6, 1 + ticks)
            (self.is_so if ticks <= 4 else self.is_not)(paper)

    def test_the_holder_is_off_or_dropped_it(self):
        self.is_so(put(KNOWN, 3, ALONE + [("go", 0)]))
        self.is_so(put(KNOWN, 3, ALONE + [("drop", 0, "a")]))
        self.is_so(put(KNOWN, 3, ALONE + [("part", 0, (0,), 1)]))
        dropped = ALONE + [("drop", 0, "a"), ("tick",), ("hand over", 1)]
        self.is_not(put(put(KNOWN, 3, dropped), 6, 2))

    def test_the_hand_is_not_there(self):
        self.is_not(put(KNOWN, 3, ALONE + [("go", 1)]))
        self.is_not(put(KNOWN, 3, ALONE + [("go", 1), ("come", 1, 0)]))
        self.is_not(put(KNOWN, 3, []))

    def test_the_hand_holds_it_itself_meanwhile(self):
        script = ALONE + [("part", 0, (0,), 1), ("claim", 1, "a", 9, 1), ("tick",)]
        for age in range(4):
            self.is_not(put(put(KNOWN, 3, script), 6, age))

    def test_with_joining(self):
        self.is_so(put(KNOWN, 3, ALONE + [("join", 2, 0)]))

    def test_a_call_left_out_told_twice_or_exchanged(self):
        for at in range(len(ALONE)):
            self.is_not(put(KNOWN, 3, ALONE[:at] + ALONE[at + 1 :]))
            self.is_not(put(KNOWN, 3, ALONE[: at + 1] + ALONE[at:]))
        self.is_so(put(KNOWN, 3, [ALONE[at] for at in (1, 0, 2, 3, 4, 5)]))
        self.is_not(put(KNOWN, 3, [ALONE[at] for at in (0, 1, 3, 2, 4, 5)]))
        self.is_not(put(KNOWN, 3, [ALONE[at] for at in (0, 1, 2, 3, 5, 4)]))

    def test_a_kept_copy(self):
        self.is_so(put(KNOWN, 3, ALONE[:-1] + [("keep", 0), ("keep", 0)]))


class HeldTooLongAgo(unittest.TestCase):
    """By the wires themselves nobody is told an age in which the name wasn't held, so these wires tell more."""

    def test_a_holder_that_held_it_too_long_ago(self):
        paper = ("known", EXACT, HASTY, ALONE + [("go", 0)] + [("tick",)] * 3, 1, "a", 4, 0, 5)
        self.assertIs(holds(paper), True)
        right = Wires.known_of

        def younger(wires, hand, name):
            entry = right(wires, hand, name)
            return entry if entry is None or entry[0] == hand else entry[:2] + (2,)

        def marked(wires, hand, name):
            entry = right(wires, hand, name)
            return entry if entry is None or entry[0] == hand else (entry[0], 6, entry[2])

        with mock.patch.object(Wires, "known_of", younger):
            self.assertIs(holds(put(paper, 6, 2)), False)
        with mock.patch.object(Wires, "known_of", marked):
            self.assertIs(holds(put(paper, 8, 6)), False)


def changed_number(chance, number):
    return chance.of([number + 1, number - 1, 0, 1, True, False, str(number), None, 10**59])


def changed_tuple(chance, row):
    """The tuple with one part changed by itself, left out or told twice."""
    if not row:
        return (0,)
    at = chance.below(len(row))
    lot = chance.below(10)
    if lot == 0:
        return row[:at] + row[at + 1 :]
    if lot == 1:
        return row[:at] + row[at:] + row[at : at + 1]
    if lot == 2:
        return list(row)
    return put(row, at, changed(chance, row[at]))


def changed_script(chance, script):
    if not script:
        return chance.of([(), [("tick",)], [None]])
    at, other = chance.below(len(script)), chance.below(len(script))
    lot = chance.below(7)
    if lot == 0:
        return script[:at] + script[at + 1 :]
    if lot == 1:
        return script[: at + 1] + script[at:]
    if lot == 2:
        rest = list(script)
        rest[at], rest[other] = rest[other], rest[at]
        return rest
    if lot == 3:
        return script[:at]
    if lot == 4:
        return script + [chance.of([("tick",), ("drop", 0, "a"), ("join", 0, 1), ("go", 1)])]
    return script[:at] + [changed(chance, script[at])] + script[at + 1 :]


def changed(chance, thing):
    """The thing, changed at one place."""
    if type(thing) is list:
        return chance.of([tuple(thing)] + [changed_script(chance, thing)] * 9)
    if type(thing) is tuple:
        return changed_tuple(chance, thing)
    if type(thing) is int:
        return changed_number(chance, thing)
    return chance.of(list(NAMES) + ["one", "two", "known", "tick", "go", "", thing + "2", None, 0])


def papers_of(wires, bounds, rule):
    """Papers of all kinds, told of what the wires tell; some of them are not so."""
    numbers = (rule.probes, rule.gap, rule.wait, rule.repeats, rule.period, rule.life)
    head = ((bounds.lost, bounds.late), numbers, wires.script())
    rows = [("one", *head)]
    rows += [("two", *head, wire, name) for wire, name, _ in wires.doubles()]
    for hand in [hand for wire in range(4) for hand in wires.hands_on(wire)]:
        for name, other, mark, age in wires.all_known(hand):
            rows.append(("known", *head, hand, name, age, other, mark))
    return rows


class AgainstTheModel(unittest.TestCase):
    """Papers of chance, and each with something changed, are let by just where the slow model says so."""

    def test_papers_of_chance(self):
        seen = {}
        for seed in range(400, 600):
            chance = Chance(seed)
            for paper in papers_of(*walked(seed, 5 + chance.below(60 if seed % 2 else 20), hasty=seed % 2 == 0)):
                rows = [paper] + [changed(chance, paper) for _ in range(12)]
                for row in rows:
                    so = oracle.is_so(row)
                    self.assertIs(holds(row), so, row)
                    seen[paper[0], so] = seen.get((paper[0], so), 0) + 1
        for kind in ("one", "two", "known"):
            for so in (True, False):
                self.assertGreater(seen[kind, so], 50, (kind, so))


if __name__ == "__main__":
    unittest.main()
