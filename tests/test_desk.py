"""A desk [26]: its rows, their answers, and what is refused."""

import unittest

from tests.helper import any_things, BOUNDS, LEAST, rule_of
from wirenames.desk import Desk
from wirenames.errors import (
    Came,
    Claimed,
    Due,
    Early,
    IsOn,
    NoBounds,
    NoClaim,
    NoHand,
    NoHands,
    NoLetter,
    NoMark,
    NoName,
    NoRule,
    NoSaying,
    NotEmpty,
    NotOn,
    NoTries,
    NoWire,
    Owed,
    SameWire,
    TooMany,
)
from wirenames.rules import Bounds, Rule

# A claim holds at the end of its tick, without a probe.
HASTY = rule_of(probes=0, period=50, life=100)
NAMES = ("a", "b", "c", "d")


def said(desk, *rows):
    """The answers to the rows."""
    return [desk.say(row) for row in rows]


def answers(desk):
    """All that a desk tells."""
    rows = ["way", "doubles", "now"] + [f"hold {name}" for name in NAMES]
    told = said(desk, *rows)
    for hand in range(8):
        for row in [f"claims {hand}"] + [f"{word} {hand} {name}" for word in ("who", "asked") for name in NAMES]:
            try:
                told.append(desk.say(row))
            except NotOn:
                told.append("not on")
    return told


def busy():
    """A desk at tick 1: hands 0 and 1 on wire 0, which both hold `a`, hand 2 on wire 1. Copies 0 (kept) and 1
    are askings of hand 0 for all names, of tick 0, 2 and 3 letters `hold` of tick 1."""
    desk = Desk(Bounds(lost=1, late=2), HASTY)
    said(desk, "come 0 0", "come 1 0", "come 2 1", "claim 0 a 5 1", "claim 1 a 6 2", "all 0", "all 0", "tick", "keep 0")
    return desk


class Answers(unittest.TestCase):
    def test_ok(self):
        desk = Desk(BOUNDS, HASTY)
        for row in (
            "come 0 0",
            "come 1 0",
            "come 2 3",
            "claim 0 a 5 2",
            "claim 1 b 999 9",
            "claim 1 c2 0 1",
            "all 0",
            "all 0",
            "all 0",
            "tick",
            "over 0",
            "keep 1",
            "keep 1",
            "lose 2",
            "drop 1 c2",
            "join 3 0",
            "part 3 1 0 1",
            "part 1 0 1",
            "go 1",
            "tick",
        ):
            self.assertEqual(desk.say(row), "ok", row)
        self.assertEqual(desk.say("now"), "2")

    def test_each_row_is_done(self):
        desk = busy()
        self.assertEqual(desk.say("now"), "1")
        self.assertEqual(desk.say("way"), "0:ask:0:1:,1:ask:0:1:,2:hold:0:1:a,3:hold:1:0:a")
        said(desk, "over 0")
        self.assertEqual(desk.say("way"), "1:ask:0:1:,2:hold:0:1:a,3:hold:1:0:a")
        said(desk, "lose 1")
        self.assertEqual(desk.say("way"), "2:hold:0:1:a,3:hold:1:0:a")
        self.assertEqual(desk.say("doubles"), "0:a")
        said(desk, "tick", "over 3")
        self.assertEqual(desk.say("hold a"), "0:1")
        self.assertEqual(desk.say("claims 0"), "none")
        said(desk, "part 0 3 0 1")
        self.assertEqual(desk.say("hold a"), "3:1")
        said(desk, "join 1 3")
        self.assertEqual(desk.say("hold a"), "1:1")
        said(desk, "drop 1 a")
        self.assertEqual(desk.say("hold a"), "none")
        self.assertEqual(desk.say("way"), "2:hold:0:1:a,4:gone:1:0:a,5:gone:1:2:a")
        said(desk, "go 0")
        self.assertEqual(desk.say("way"), "2:hold:0:1:a,5:gone:1:2:a")

    def test_keep_leaves_the_copy_on_its_way_and_over_does_not(self):
        desk = busy()
        said(desk, "keep 1", "keep 1")
        self.assertEqual(desk.say("way")[:9], "0:ask:0:1")
        with self.assertRaises(Came):
            desk.say("lose 1")
        said(desk, "over 1")
        with self.assertRaises(NoLetter):
            desk.say("over 1")

    def test_tries_and_marks_are_those_told(self):
        desk = Desk(BOUNDS, rule_of(probes=1, wait=3, period=50, life=100))
        said(desk, "come 0 0", "come 1 0", "claim 0 a 5 2", "claim 1 a 6 1", "tick", "over 1")
        self.assertEqual(said(desk, "claims 0", "claims 1"), ["a2:probing", "a:probing"])
        said(desk, "lose 0", "tick", "tick", "over 2")
        said(desk, "tick")
        self.assertEqual(said(desk, "claims 0", "claims 1"), ["a2:probing", "a:holding"])

    def test_ask(self):
        desk = Desk(BOUNDS, HASTY)
        said(desk, "come 0 0", "come 1 0", "claim 0 a 5 1", "tick")
        self.assertEqual(said(desk, "ask 0 a", "ask 1 a", "ask 1 a", "ask 1 b"), ["known", "asked", "asked", "asked"])
        said(desk, "tick", "over 0")
        self.assertEqual(desk.say("ask 1 a"), "known")

    def test_who(self):
        desk = Desk(BOUNDS, HASTY)
        said(desk, "come 3 0", "come 1 0", "claim 3 a 500 1", "tick", "tick", "over 0")
        self.assertEqual(said(desk, "who 3 a", "who 1 a", "who 1 b"), ["3 500 0", "3 500 2", "nobody"])
        said(desk, "tick")
        self.assertEqual(said(desk, "who 3 a", "who 1 a"), ["3 500 0", "3 500 3"])

    def test_asked(self):
        desk = Desk(Bounds(lost=1, late=1), HASTY)
        said(desk, "come 0 0", "ask 0 a")
        self.assertEqual(said(desk, "asked 0 a", "asked 0 b"), ["open", "not asked"])
        said(desk, "tick", "tick", "tick")
        self.assertEqual(said(desk, "asked 0 a", "asked 0 b"), ["none", "not asked"])

    def test_hold_and_doubles(self):
        desk = Desk(BOUNDS, HASTY)
        said(desk, "come 7 0", "come 2 0", "come 1 3", "come 0 3", "come 4 1")
        said(desk, *[f"claim {hand} b 1 1" for hand in (7, 2, 1, 0, 4)])
        said(desk, "claim 2 a 1 1", "claim 7 a 1 1", "claim 4 a2 1 1")
        self.assertEqual(said(desk, "hold b", "doubles"), ["none", "none"])
        said(desk, "tick")
        self.assertEqual(desk.say("hold b"), "0:2,0:7,1:4,3:0,3:1")
        self.assertEqual(desk.say("hold a"), "0:2,0:7")
        self.assertEqual(desk.say("hold a2"), "1:4")
        self.assertEqual(desk.say("doubles"), "0:a,0:b,3:b")

    def test_claims(self):
        desk = Desk(BOUNDS, rule_of(probes=1, wait=1, period=50, life=100))
        said(desk, "come 0 0", "claim 0 b 1 1", "tick", "claim 0 ab 1 1", "claim 0 a2 1 1")
        self.assertEqual(desk.say("claims 0"), "a2:probing,ab:probing,b:probing")
        said(desk, "tick")
        self.assertEqual(desk.say("claims 0"), "a2:probing,ab:probing,b:holding")

    def test_way(self):
        desk = Desk(BOUNDS, rule_of(probes=1, wait=1, period=50, life=100))
        said(desk, "come 5 0", "come 3 0", "come 4 0", "claim 5 abc9 7 1", "all 3", "ask 4 b")
        self.assertEqual(
            desk.say("way"),
            "0:probe:5:3:abc9,1:probe:5:4:abc9,2:ask:3:4:,3:ask:3:5:,4:ask:4:3:b,5:ask:4:5:b",
        )

    def test_where_nothing_stands(self):
        desk = Desk(BOUNDS, LEAST)
        self.assertEqual(said(desk, "way", "doubles", "hold a", "now"), ["none", "none", "none", "0"])
        said(desk, "come 0 0")
        self.assertEqual(said(desk, "claims 0", "who 0 a", "asked 0 a"), ["none", "nobody", "not asked"])

    def test_asking_changes_nothing(self):
        desk = busy()
        before = answers(desk)
        self.assertEqual(answers(desk), before)

    def test_part_takes_any_hands_that_rise(self):
        desk = Desk(BOUNDS, HASTY)
        said(desk, *[f"come {hand} 2" for hand in range(8)], *[f"claim {hand} a 1 1" for hand in range(8)], "tick")
        said(desk, "part 2 0 1 3 5 7", "part 2 1 0", "part 2 3 2 4 6")
        self.assertEqual(desk.say("hold a"), "0:1,0:3,0:5,0:7,1:0,3:2,3:4,3:6")

    def test_row_by_name(self):
        self.assertEqual(Desk(rule=LEAST, bounds=BOUNDS).say(row="now"), "0")


NO_ROWS = [
    "",
    " ",
    "  ",
    " tick",
    "tick ",
    "tick\n",
    "\ttick",
    "come  0 3",
    "come 7  3",
    " come 7 3",
    "come 7 3 ",
    "come\t7 3",
    "come 7\n3",
    "come",
    "come 7",
    "come 7 3 0",
    "Come 7 3",
    "COME 7 3",
    "comes 7 3",
    "go",
    "go 0 0",
    "claim 0 b 5",
    "claim 0 b 5 1 1",
    "claim 0 5 1",
    "drop 0",
    "drop 0 a a",
    "drop a",
    "ask",
    "ask 0",
    "ask 0 a b",
    "ask all 0",
    "ask a",
    "all",
    "all 0 0",
    "join",
    "join 0",
    "join 0 1 2",
    "meet 0 1",
    "part",
    "part 0",
    "part 0 3",
    "part 0 3 1 0",
    "part 0 3 0 0",
    "part 0 3 0 1 1",
    "part 0 3 0 2 1",
    "part 0 3 a",
    "part 0 3 0 a",
    "part 0 3 (0,)",
    "part 0 3 0,1",
    "part 9 9 1 0",
    "part 0 0 0 0",
    "tick 1",
    "tick tick",
    "ticks",
    "over",
    "over 0 0",
    "hand over 0",
    "keep",
    "keep 0 0",
    "lose",
    "lose 1 1",
    "who",
    "who 0",
    "who a",
    "who 0 a a",
    "asked 0",
    "asked 0 a a",
    "hold",
    "hold 0 a",
    "hold a a",
    "claims",
    "claims 0 a",
    "claims a",
    "way 0",
    "ways",
    "doubles 0",
    "double",
    "now 0",
    "notes",
    "script",
    "known 0 a",
    "0",
    "a",
    "None",
    "#",
    "~",
]

# Where a 0 or a 1 would be told, but it is written otherwise.
NO_NUMBERS = [
    "00",
    "01",
    "001",
    "-0",
    "-00",
    "-01",
    "+0",
    "+1",
    "--1",
    "1-",
    "-",
    "+",
    "1_0",
    "0_1",
    "_1",
    "1_",
    "1.0",
    "1.",
    ".1",
    "1e0",
    "0x1",
    "0b1",
    "1L",
    "a",
    "a1",
    "one",
    "True",
    "False",
    "None",
    "[1]",
    "(1)",
    "1,",
    "\t1",
    "1\n",
    "\u0661",
    "\u00b2",
    "\uff11",
    "1\u00a0",
]

# Rows with a number's place left open, that would be done with a 0 or a 1 there.
OPEN_ROWS = [
    "come {} 3",
    "come 7 {}",
    "go {}",
    "claim {} b 5 1",
    "claim 0 b {} 1",
    "claim 0 b 5 {}",
    "drop {} a",
    "ask {} a",
    "all {}",
    "join {} 2",
    "join 2 {}",
    "part {} 3 0",
    "part 0 {} 0",
    "part 0 3 {}",
    "part 0 3 {} 7",
    "part 0 3 -7 {}",
    "over {}",
    "keep {}",
    "lose {}",
    "who {} a",
    "asked {} a",
    "claims {}",
]


class Refused(unittest.TestCase):
    def refused(self, desk, refusal, row):
        before = answers(desk)
        with self.assertRaises(refusal) as caught:
            desk.say(row)
        self.assertIs(type(caught.exception), refusal, row)
        self.assertEqual(answers(desk), before, row)
        return caught.exception

    def test_no_rows(self):
        desk = busy()
        for row in NO_ROWS:
            self.refused(desk, NoSaying, row)

    def test_no_texts(self):
        desk = busy()
        for thing in any_things() + [b"tick", ["tick"], ("tick",), ["come", 7, 3], 0]:
            self.refused(desk, NoSaying, thing)

    def test_numbers_written_otherwise(self):
        desk = busy()
        for row in OPEN_ROWS:
            for word in NO_NUMBERS:
                self.refused(desk, NoSaying, row.replace("{}", word))

    def test_a_blank_more_at_a_number(self):
        desk = busy()
        for row in OPEN_ROWS:
            for word in (" 1", "1 ", " 0", ""):
                self.refused(desk, NoSaying, row.replace("{}", word))

    def test_no_saying_comes_ahead_of_what_the_wires_refuse(self):
        desk = busy()
        for row in (
            "come 9 x",
            "come x 9",
            "claim 9 B x 1",
            "claim 9 B 5 x",
            "claim 0 a 1000 01",
            "drop x A",
            "join 9 x",
            "part 9 x 0",
            "part 9 9",
            "part 9 9 8 x",
            "part 9 9 9 8",
            "who x A",
        ):
            self.refused(desk, NoSaying, row)

    def test_a_name_is_any_word(self):
        desk = busy()
        for word in ("A", "a1", "abcdefghi", "0", "-0", "a,b", "a:b", "\t", "None", "~" * 300, "\u00e4"):
            for row in ("claim 0 {} 5 1", "drop 0 {}", "ask 0 {}", "who 0 {}", "asked 0 {}", "hold {}"):
                self.refused(desk, NoName, row.replace("{}", word))

    def test_refusals_of_hands(self):
        desk = busy()
        rows = "come {} 3/go {}/claim {} A 5000 0/drop {} A/ask {} A/all {}/who {} A/asked {} A/claims {}".split("/")
        for row in rows:
            for hand in (8, -1, 10, 10**59, -(10**59), 10**300):
                refusal = self.refused(desk, NoHand, row.replace("{}", str(hand)))
                self.assertEqual(refusal.hand, hand)
                self.assertIs(type(refusal.hand), int)
            if row != rows[0]:
                self.assertEqual(self.refused(desk, NotOn, row.replace("{}", "7")).hand, 7)
        for hand in (0, 1, 2):
            refusal = self.refused(desk, IsOn, f"come {hand} 3")
            self.assertEqual(refusal.hand, hand)
            self.assertIs(type(refusal.hand), int)

    def test_refusals_of_wires(self):
        desk = busy()
        for row in ("come 7 {}", "join {} 9", "join 0 {}", "part {} 9 7", "part 0 {} 0"):
            for wire in (4, -1, 10**59, 10**300):
                refusal = self.refused(desk, NoWire, row.replace("{}", str(wire)))
                self.assertEqual(refusal.wire, wire)
                self.assertIs(type(refusal.wire), int)
        self.refused(desk, SameWire, "join 1 1")
        self.refused(desk, SameWire, "part 0 0 0")
        self.refused(desk, NotEmpty, "part 0 1 0")

    def test_hands_that_do_not_stand_there(self):
        desk = busy()
        for hands in ("2", "0 2", "7", "8", "-1", "0 1 2", "-1 0", "0 1 8", str(10**59)):
            self.refused(desk, NoHands, f"part 0 3 {hands}")
            self.refused(desk, NoHands, f"part 0 9 {hands}")

    def test_refusals_of_claims(self):
        desk = busy()
        self.refused(desk, NoMark, "claim 0 a 1000 0")
        self.refused(desk, NoMark, "claim 0 a -1 1")
        self.refused(desk, NoMark, f"claim 0 a {10**100} 1")
        self.refused(desk, NoTries, "claim 0 a 5 0")
        self.refused(desk, NoTries, "claim 0 a 5 10")
        self.refused(desk, Claimed, "claim 0 a 5 1")
        self.refused(desk, NoClaim, "drop 0 b")
        said(desk, "claim 0 b 1 1", "claim 0 c 1 1")
        self.refused(desk, TooMany, "claim 0 d 1 1")
        self.refused(desk, Claimed, "claim 0 b 1 1")

    def test_refusals_of_letters(self):
        desk = busy()
        for word in ("over", "keep", "lose"):
            for number in (4, 99, -1, 10**59, -(10**300)):
                refusal = self.refused(desk, NoLetter, f"{word} {number}")
                self.assertEqual(refusal.number, number)
                self.assertIs(type(refusal.number), int)
        for word in ("over", "keep"):
            self.assertEqual(self.refused(desk, Early, f"{word} 2").number, 2)
        self.assertEqual(self.refused(desk, Came, "lose 0").number, 0)
        desk.say("tick")
        self.assertEqual(self.refused(desk, Due, "tick").numbers, (1,))
        desk.say("over 1")
        desk.say("tick")
        self.assertEqual(self.refused(desk, Due, "tick").numbers, (2, 3))

    def test_owed(self):
        desk = Desk(BOUNDS, HASTY)
        said(desk, "come 0 0", "come 1 0", "all 0", "all 0", "lose 0")
        refusal = self.refused(desk, Owed, "lose 1")
        self.assertEqual(refusal.number, 1)
        self.assertIs(type(refusal.number), int)

    def test_numbers_of_any_size(self):
        desk = busy()
        for figures in (61, 390, 4301, 20000):
            row = "go " + "9" * figures
            self.assertEqual(self.refused(desk, NoHand, row).hand, 10**figures - 1)
            row = "over -1" + "0" * figures
            self.assertEqual(self.refused(desk, NoLetter, row).number, -(10**figures))
            self.refused(desk, NoSaying, "go 0" + "9" * figures)
            self.refused(desk, NoSaying, "go -" + "0" * figures)
            self.refused(desk, NoSaying, "go " + "9" * figures + "x")

    def test_behind_a_refusal_the_desk_goes_on(self):
        desk, other = busy(), busy()
        for row in NO_ROWS:
            with self.assertRaises(NoSaying):
                desk.say(row)
        for row in ("ask 2 b", "tick", "over 3", "drop 1 a", "way", "claims 0", "who 0 a"):
            self.assertEqual(desk.say(row), other.say(row))


class Desks(unittest.TestCase):
    def test_no_bounds_and_no_rule(self):
        other = Rule(probes=2, gap=1, wait=5, repeats=1, period=8, life=11)
        for thing in any_things() + [(1, 2), "Bounds(1 2)"]:
            if not isinstance(thing, Bounds):
                for rule in (LEAST, other, thing):
                    with self.assertRaises(NoBounds):
                        Desk(thing, rule)
            if not isinstance(thing, Rule):
                with self.assertRaises(NoRule):
                    Desk(BOUNDS, thing)
        with self.assertRaises(NoRule):
            Desk(BOUNDS, other)

    def test_by_the_bounds_and_the_rule_that_it_is_made_of(self):
        desk = Desk(Bounds(lost=0, late=1), rule_of(probes=1, wait=2, period=9, life=9))
        said(desk, "come 0 0", "come 1 0", "claim 0 a 5 1")
        with self.assertRaises(Owed):
            desk.say("lose 0")
        said(desk, "tick")
        with self.assertRaises(Due):
            desk.say("tick")
        said(desk, "over 0", "tick")
        self.assertEqual(desk.say("claims 0"), "a:probing")
        said(desk, "tick")
        self.assertEqual(desk.say("claims 0"), "a:holding")

    def test_two_desks_share_nothing(self):
        one, two = Desk(BOUNDS, HASTY), Desk(BOUNDS, HASTY)
        before = answers(two)
        said(one, "come 0 0", "come 1 0", "claim 0 a 5 1", "tick", "tick")
        self.assertEqual(answers(two), before)
        said(two, "come 0 3", "claim 0 a 1 1")
        self.assertEqual(one.say("hold a"), "0:0")
        self.assertEqual(two.say("now"), "0")

    def test_the_same_rows_have_the_same_answers(self):
        self.assertEqual(answers(busy()), answers(busy()))


if __name__ == "__main__":
    unittest.main()
