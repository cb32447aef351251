"""One history told by calls, by a script and by rows: the answers are the same [3, 23, 26]."""

import unittest

from tests.helper import Chance, REFUSALS, told
from tests.walks import chance_bounds, chance_call, chance_rule, hasty_rule, let_due_come, NAMES
from wirenames.desk import Desk
from wirenames.errors import Due, NoScript
from wirenames.looker import holds
from wirenames.papers import one_paper, weaker_paper
from wirenames.rules import Bounds, Rule
from wirenames.scripts import gone_along
from wirenames.wires import Wires

WORDS = {"ask_all": "ask all", "meet": "join", "hand_over": "hand over"}
ROW_WORDS = {"ask all": "all", "hand over": "over"}


def call_of(method, given, by_name):
    """The call of a script that this call of a method is."""
    if method == "part":
        wire, hands, other = given
        return ("part", wire, tuple(hands), other)
    if by_name.get("keep"):
        return ("keep", *given)
    if method == "claim":
        return ("claim", *given, by_name["tries"])
    return (WORDS.get(method, method), *given)


def row_of(call):
    """The row of a desk that says what a call of a script does."""
    if call[0] == "part":
        _, wire, hands, other = call
        return " ".join(map(str, ("part", wire, other, *hands)))
    return " ".join(map(str, (ROW_WORDS.get(call[0], call[0]), *call[1:])))


def rows_told(wires):
    """What a desk with these wires answers, by what the wires tell."""
    hands = [hand for wire in range(4) for hand in wires.hands_on(wire)]
    rows = {"now": str(wires.now())}
    rows["way"] = ",".join(":".join(map(str, row[:5])) for row in wires.way()) or "none"
    rows["doubles"] = ",".join(f"{wire}:{name}" for wire, name, _ in wires.doubles()) or "none"
    for name in NAMES:
        rows[f"hold {name}"] = ",".join(f"{wire}:{hand}" for wire, hand in wires.who_holds(name)) or "none"
    for hand in hands:
        rows[f"claims {hand}"] = ",".join(f"{row[0]}:{row[3]}" for row in wires.claims_of(hand)) or "none"
        for name in NAMES:
            rows[f"who {hand} {name}"] = " ".join(map(str, wires.known_of(hand, name) or ["nobody"]))
            rows[f"asked {hand} {name}"] = wires.asking_of(hand, name)
    return rows


def answer_or_refusal(deed, *given, **by_name):
    """What was answered; of a refusal its class and its fields."""
    try:
        return deed(*given, **by_name)
    except REFUSALS as refusal:
        return type(refusal), vars(refusal)


class Tellings(unittest.TestCase):
    def same_answers(self, wires, desk):
        for row, answer in rows_told(wires).items():
            self.assertEqual(desk.say(row), answer, row)

    def tell(self, wires, desk, method, given, by_name):
        """Tell one call to both; whether it was done."""
        call = call_of(method, given, by_name)
        answer = answer_or_refusal(getattr(wires, method), *given, **by_name)
        said = answer_or_refusal(desk.say, row_of(call))
        if isinstance(answer, tuple):
            # A row that parts nobody off is none, though wires refuse it as no hands.
            if call[0] != "part" or call[2]:
                self.assertEqual(said, answer, call)
            return False
        self.assertEqual(said, "ok" if answer is None else answer, call)
        return True

    def walk(self, seed, steps):
        chance = Chance(seed)
        bounds = chance_bounds(chance)
        rule = hasty_rule(bounds) if seed % 3 == 0 else chance_rule(chance, bounds)
        wires, desk = Wires(bounds, rule), Desk(bounds, rule)
        for hand in range(3):
            self.tell(wires, desk, "come", (hand, 0), {})
        refused = 0
        for _ in range(steps):
            method, given, by_name = chance_call(chance, wires)
            script = wires.script()
            call = call_of(method, given, by_name)
            if self.tell(wires, desk, method, given, by_name):
                self.assertEqual(wires.script(), script + [call])
            else:
                refused += 1
                with self.assertRaises(NoScript) as caught:
                    gone_along(bounds, rule, script + [call, ("tick",)])
                self.assertEqual(caught.exception.at, len(script))
                self.let_come(wires, desk, chance)
            self.same_answers(wires, desk)
        self.assertEqual(told(gone_along(bounds, rule, wires.script())), told(wires))
        return wires, bounds, rule, refused

    def let_come(self, wires, desk, chance):
        """Let what holds a tick up come or be lost, by calls, and tell the desk what was done."""
        done = len(wires.script())
        try:
            wires.tick()
        except Due as due:
            let_due_come(wires, due.numbers, chance)
        for call in wires.script()[done:]:
            self.assertEqual(desk.say(row_of(call)), "ok")

    def test_calls_scripts_and_rows(self):
        words, refused = set(), 0
        for seed in range(800, 860):
            wires, bounds, rule, many = self.walk(seed, 80)
            refused += many
            words |= {call[0] for call in wires.script()}
            late = Desk(bounds, rule)
            for call in wires.script():
                late.say(row_of(call))
            self.same_answers(wires, late)
        self.assertEqual(len(words), 12)
        self.assertGreater(refused, 500)

    def test_weaker_papers_by_rows_and_calls(self):
        """One less of anything than the least rule has: two hold, whichever way it is told."""
        for lost in range(4):
            for word in ("probes", "repeats", "wait") if lost else ("probes", "wait"):
                paper = weaker_paper(Bounds(lost=lost, late=2), word, gap=2)
                fields = ("probes", "gap", "wait", "repeats", "period", "life")
                bounds, rule = Bounds(lost=lost, late=2), Rule(**dict(zip(fields, paper[2], strict=True)))
                desk = Desk(bounds, rule)
                for call in paper[3]:
                    self.assertEqual(desk.say(row_of(call)), "ok")
                self.assertEqual(desk.say("doubles"), f"{paper[4]}:{paper[5]}")
                wires = gone_along(bounds, rule, paper[3])
                self.assertEqual([row[:2] for row in wires.doubles()], [paper[4:]])
                self.assertIs(holds(paper), True)

    def test_papers_of_a_script_and_of_calls_are_the_same(self):
        for seed in range(860, 880):
            wires, bounds, rule, _ = self.walk(seed, 30)
            again = gone_along(bounds, rule, wires.script())
            self.assertEqual(answer_or_refusal(one_paper, again), answer_or_refusal(one_paper, wires))


if __name__ == "__main__":
    unittest.main()
