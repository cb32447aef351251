"""Scripts [23]: going along them, what is no call, and where a script is refused."""

import copy
import unittest

from tests.helper import any_things, BOUNDS, do_call, LEAST, LONG, rule_of, told
from tests.walks import walked
from wirenames.errors import NoBounds, NoRule, NoScript
from wirenames.rules import Bounds, Rule
from wirenames.scripts import gone_along
from wirenames.wires import Wires

RULE = rule_of(probes=2, wait=1, repeats=1, period=9, life=12)
WORDS = set("come/go/claim/drop/ask/ask all/join/part/tick/hand over/keep/lose".split("/"))

# Behind these calls hands 0 and 1 stand on wire 0, hand 2 on wire 1; copies 0 (sent at tick 0, kept) and
# 1 (sent at tick 1) are on their way to hand 1, and it is tick 1.
BASE = [
    ("come", 0, 0),
    ("come", 1, 0),
    ("come", 2, 1),
    ("claim", 0, "a", 5, 2),
    ("ask", 2, "b"),
    ("tick",),
    ("keep", 0),
]

NO_CALLS = any_things() + [
    0,
    "tick",
    ["tick"],
    (("tick",),),
    ("tick", None),
    ("tick", ()),
    ("tick", "tick"),
    ("Tick",),
    ("tick ",),
    (["tick"],),
    (("come", 3, 0), ("tick",)),
    ["come", 3, 0],
    ("come",),
    ("come", 3),
    ("come", 3, 0, 0),
    ("come", (3, 0)),
    (3, "come", 0),
    ("come", True, 0),
    ("come", 3, True),
    ("come", 3, False),
    ("come", "3", 0),
    ("come", 3, "0"),
    ("come", [3], 0),
    ("come", 8, 0),
    ("come", -1, 0),
    ("come", 3, 4),
    ("come", LONG[0], 0),
    ("come", 3, LONG[1]),
    ("come", None, None),
    ("come", BOUNDS, RULE),
    ("go",),
    ("go", True),
    ("go", "1"),
    ("go", [1]),
    ("go", 1, 0),
    ("goes", 1),
    ("claim", 1, "b", 5),
    ("claim", 1, "b", 5, 1, 1),
    ("claim", True, "b", 5, 1),
    ("claim", 1, "b", True, 1),
    ("claim", 1, "b", 5, True),
    ("claim", 1, "b", "5", 1),
    ("claim", 1, "b", 5, "1"),
    ("claim", 1, "b", 1000, 1),
    ("claim", 1, "b", 5, 0),
    ("claim", 1, "b", 5, 10),
    ("claim", 1, "b1", 5, 1),
    ("claim", 1, "", 5, 1),
    ("claim", 1, ["b"], 5, 1),
    ("claim", 1, 5, "b", 1),
    ("drop", 0),
    ("drop", False, "a"),
    ("drop", 0, "a", 5),
    ("drop", 0, None),
    ("ask", 1),
    ("ask", True, "a"),
    ("ask", 1, ""),
    ("ask", 1, "A"),
    ("ask", 1, "a", "a"),
    ("ask_all", 1),
    ("all", 1),
    ("ask all",),
    ("ask all", True),
    ("ask all", 1, "a"),
    ("meet", 0, 1),
    ("join", 0),
    ("join", 0, 1, 2),
    ("join", 0, True),
    ("join", False, 1),
    ("join", 0, "1"),
    ("join", 0, 4),
    ("join", (0, 1)),
    ("part", 0, [0], 3),
    ("part", 0, [0, 1], 3),
    ("part", 0, (1, 0), 3),
    ("part", 0, (0, 0), 3),
    ("part", 0, (0, 1, 1), 3),
    ("part", 0, (), 3),
    ("part", 0, 0, 3),
    ("part", 0, "0", 3),
    ("part", 0, None, 3),
    ("part", 0, ("0",), 3),
    ("part", 0, (True,), 3),
    ("part", 0, (False,), 3),
    ("part", 0, (0, True), 3),
    ("part", 0, (False, 1), 3),
    ("part", 0, ((0,),), 3),
    ("part", 0, ([0],), 3),
    ("part", 0, (None,), 3),
    ("part", 0, (0, "1"), 3),
    ("part", 0, (0, 8), 3),
    ("part", 0, (-1, 0), 3),
    ("part", 0, (0, LONG[0]), 3),
    ("part", 0, 0, 1, 3),
    ("part", False, (0,), 3),
    ("part", 0, (0,), True),
    ("part", 0, (0,)),
    ("part", 0, 3, (0,)),
    ("hand_over", 0),
    ("hand over",),
    ("hand over", False),
    ("hand over", "0"),
    ("hand over", [0]),
    ("hand over", (0,)),
    ("hand over", 0, True),
    ("hand over", LONG[0]),
    ("hand over", LONG[1]),
    ("keep", False),
    ("keep", "0"),
    ("keep", 0, 0),
    ("keep",),
    ("lose", True),
    ("lose", "1"),
    ("lose",),
    ("lose", 1, 1),
    ("lose", None),
    ("way",),
    ("now",),
    ("notes",),
    ("script",),
]

REFUSED = [
    ("come", 0, 1),
    ("come", 2, 1),
    ("go", 5),
    ("claim", 0, "a", 5, 1),
    ("claim", 7, "b", 5, 1),
    ("drop", 1, "a"),
    ("drop", 3, "a"),
    ("ask", 3, "a"),
    ("ask all", 6),
    ("join", 1, 1),
    ("part", 0, (2,), 3),
    ("part", 0, (0, 2), 3),
    ("part", 3, (3,), 2),
    ("part", 0, (0,), 0),
    ("part", 0, (0,), 1),
    ("hand over", 1),
    ("hand over", 2),
    ("hand over", -1),
    ("keep", 1),
    ("keep", 99),
    ("lose", 0),
    ("lose", 99),
]


def place_of(test, script, bounds=BOUNDS, rule=RULE):
    """The place at which the script is refused."""
    with test.assertRaises(NoScript) as caught:
        gone_along(bounds, rule, script)
    test.assertIs(type(caught.exception), NoScript)
    return caught.exception.at


class GoingAlong(unittest.TestCase):
    def test_each_call_is_done(self):
        wires = gone_along(BOUNDS, RULE, BASE)
        self.assertIs(type(wires), Wires)
        self.assertEqual([wires.hands_on(wire) for wire in range(4)], [[0, 1], [2], [], []])
        self.assertEqual(wires.claims_of(0), [("a", 5, 2, "probing", 0)])
        self.assertEqual(wires.asking_of(2, "b"), "open")
        self.assertEqual(wires.now(), 1)
        self.assertEqual([(row[0], row[8]) for row in wires.way()], [(0, True), (1, False)])
        self.assertEqual(wires.script(), BASE)

    def test_what_each_call_does(self):
        for call, deed in (
            (("go", 1), lambda wires: wires.hands_on(0) == [0]),
            (("claim", 1, "x", 7, 3), lambda wires: wires.claims_of(1) == [("x", 7, 3, "probing", 1)]),
            (("drop", 0, "a"), lambda wires: wires.claims_of(0) == []),
            (("ask", 1, "x"), lambda wires: wires.asking_of(1, "x") == "open"),
            (("ask all", 1), lambda wires: wires.way()[-1][:5] == (2, "ask", 1, 0, "")),
            (("join", 1, 0), lambda wires: wires.hands_on(1) == [0, 1, 2]),
            (("part", 0, (1,), 2), lambda wires: wires.hands_on(2) == [1]),
            (("part", 0, (0, 1), 3), lambda wires: wires.hands_on(3) == [0, 1]),
            (("tick",), lambda wires: wires.now() == 2),
            (("hand over", 0), lambda wires: len(wires) == 1),
            (("keep", 0), lambda wires: len(wires) == 2),
            (("lose", 1), lambda wires: [row[0] for row in wires.way()] == [0]),
        ):
            wires = gone_along(BOUNDS, RULE, BASE + [call])
            self.assertTrue(deed(wires), call)
            self.assertEqual(wires.script(), BASE + [call])

    def test_wires_that_went_along_tell_what_the_first_ones_tell(self):
        words = set()
        for seed in range(200, 260):
            wires, bounds, rule = walked(seed, 150)
            self.assertEqual(told(gone_along(bounds, rule, wires.script())), told(wires), seed)
            words |= {call[0] for call in wires.script()}
        self.assertEqual(words, WORDS)

    def test_cut_anywhere_and_told_on(self):
        for seed in range(300, 306):
            wires, bounds, rule = walked(seed, 90)
            script = wires.script()
            whole = told(wires)
            for cut in range(len(script) + 1):
                half = gone_along(bounds, rule, script[:cut])
                self.assertEqual(half.script(), script[:cut])
                for call in script[cut:]:
                    do_call(half, call)
                self.assertEqual(told(half), whole, (seed, cut))

    def test_an_ask_that_told_known_is_gone_along(self):
        wires = gone_along(BOUNDS, RULE, [("come", 0, 0), ("claim", 0, "a", 5, 1)] + [("tick",)] * 3)
        self.assertEqual(wires.ask(0, "a"), "known")
        self.assertEqual(wires.script()[-1], ("ask", 0, "a"))
        self.assertEqual(told(gone_along(BOUNDS, RULE, wires.script())), told(wires))

    def test_refused_calls_are_not_in_the_script(self):
        wires = gone_along(BOUNDS, RULE, BASE)
        for call in REFUSED:
            with self.assertRaises((ValueError, LookupError)):
                do_call(wires, call)
        self.assertEqual(wires.script(), BASE)

    def test_the_empty_script(self):
        self.assertEqual(told(gone_along(BOUNDS, LEAST, [])), told(Wires(BOUNDS, LEAST)))

    def test_by_names(self):
        wires = gone_along(script=BASE, rule=RULE, bounds=BOUNDS)
        self.assertEqual(wires.script(), BASE)


class HowLong(unittest.TestCase):
    def test_two_thousand_calls(self):
        self.assertEqual(gone_along(BOUNDS, LEAST, [("tick",)] * 2000).now(), 2000)
        self.assertEqual(place_of(self, [("tick",)] * 1999 + [None]), 1999)

    def test_one_more(self):
        self.assertIsNone(place_of(self, [("tick",)] * 2001))
        self.assertIsNone(place_of(self, [None] * 2001))
        self.assertIsNone(place_of(self, [("tick",)] * 50000))
        self.assertIsNone(place_of(self, [[]] + [("tick",)] * 2000))

    def test_wires_may_be_told_more(self):
        wires = gone_along(BOUNDS, LEAST, [("tick",)] * 2000)
        wires.tick()
        self.assertEqual(len(wires.script()), 2001)
        self.assertIsNone(place_of(self, wires.script(), rule=LEAST))


class NoCalls(unittest.TestCase):
    def test_what_is_no_call_at_any_place(self):
        for thing in NO_CALLS:
            for at in range(len(BASE) + 1):
                for rest in ([], BASE[at:], [None]):
                    place = place_of(self, BASE[:at] + [thing] + rest)
                    self.assertEqual(place, at, thing)
                    self.assertIs(type(place), int)

    def test_a_call_that_is_refused(self):
        for call in REFUSED:
            for rest in ([], [("tick",)], [None, None], [call]):
                self.assertEqual(place_of(self, BASE + [call] + rest), len(BASE), call)

    def test_the_refusals_of_a_tick_and_of_letters(self):
        late = BASE + [("tick",)]
        # Copy 1, sent at tick 1, hasn't come at tick 3.
        self.assertEqual(place_of(self, late + [("tick",)] * 3), len(late) + 1)
        lost = late + [("lose", 1), ("lose", 1), ("tick",)]
        self.assertEqual(place_of(self, lost), len(late) + 1)
        asked = [("come", 0, 0), ("come", 1, 0), ("ask all", 0), ("ask all", 0), ("lose", 0), ("lose", 1)]
        self.assertEqual(place_of(self, asked), 5)
        claims = [("come", 0, 0)] + [("claim", 0, name, 1, 1) for name in ("a", "b", "c", "d")]
        self.assertEqual(place_of(self, claims), 4)

    def test_the_first_of_several(self):
        self.assertEqual(place_of(self, [("tick",), ("go", 0), None]), 1)
        self.assertEqual(place_of(self, [("tick",), None, ("go", 0)]), 1)
        self.assertEqual(place_of(self, [[]] * 2000), 0)

    def test_a_call_is_refused_by_other_bounds(self):
        script = [("come", 0, 0), ("come", 1, 0), ("ask all", 0), ("lose", 0)]
        self.assertEqual(gone_along(BOUNDS, RULE, script).script(), script)
        self.assertEqual(place_of(self, script, bounds=Bounds(lost=0, late=2)), 3)


class NoScripts(unittest.TestCase):
    def test_what_is_no_list(self):
        things = [thing for thing in any_things() if type(thing) is not list]
        for thing in things + [tuple(BASE), ("tick",), "tick", 0, 1, (), BOUNDS, RULE]:
            self.assertIsNone(place_of(self, thing), thing)

    def test_lists_of_other_things(self):
        for thing in any_things():
            if type(thing) is list and thing:
                self.assertEqual(place_of(self, thing), 0)
        self.assertEqual(place_of(self, [BASE]), 0)

    def test_no_bounds_and_no_rule_come_first(self):
        other = Rule(probes=2, gap=1, wait=1, repeats=1, period=9, life=11)
        for script in (None, [None], BASE, [("tick",)] * 2001):
            for thing in (None, True, (1, 2), "Bounds(1 2)", [], LEAST):
                for rule in (LEAST, None, other):
                    with self.assertRaises(NoBounds):
                        gone_along(thing, rule, script)
            for thing in (None, True, (2, 1, 5, 1, 8, 12), "Rule(2 1 5 1 8 12)", [], BOUNDS, other):
                with self.assertRaises(NoRule):
                    gone_along(BOUNDS, thing, script)


class NothingIsKept(unittest.TestCase):
    def test_the_list_handed_in_stays(self):
        script = list(BASE) + [("part", 0, (0, 1), 3)]
        before = copy.deepcopy(script)
        wires = gone_along(BOUNDS, RULE, script)
        self.assertEqual(script, before)
        answers = told(wires)
        script[0] = ("come", 5, 3)
        script.clear()
        self.assertEqual(told(wires), answers)

    def test_a_script_that_is_refused_stays_too(self):
        script = BASE + [["come", [3], 0], None]
        before = copy.deepcopy(script)
        self.assertEqual(place_of(self, script), len(BASE))
        self.assertEqual(script, before)

    def test_what_is_told_is_the_askers_own(self):
        wires = gone_along(BOUNDS, RULE, BASE)
        wires.script().clear()
        wires.script().append(None)
        self.assertEqual(wires.script(), BASE)

    def test_two_that_went_along_one_script_have_nothing_in_common(self):
        one, two = gone_along(BOUNDS, RULE, BASE), gone_along(BOUNDS, RULE, BASE)
        before = told(two)
        one.tick()
        one.go(1)
        self.assertEqual(told(two), before)


if __name__ == "__main__":
    unittest.main()
