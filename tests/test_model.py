"""Long rows of calls of chance, told to the wires and to the slow model: all answers are the same."""

import unittest

from tests.helper import Chance, REFUSALS, replay, told
from tests.model import Model, Refused
from wirenames.errors import Due
from wirenames.rules import Bounds, Rule, asking_time, claiming_time, least_rule
from wirenames.wires import Wires

NAMES = ("a", "b", "b2", "x", "x2")


def chance_rule(chance, bounds):
    """The least rule, or another one that fits the bounds."""
    if chance.below(3) == 0:
        return least_rule(bounds, gap=1 + chance.below(3))
    numbers = {"probes": chance.below(4), "gap": 1 + chance.below(3), "wait": chance.below(5)}
    numbers["repeats"] = chance.below(4)
    long = Rule(**numbers, period=400, life=400)
    period = claiming_time(long) + 2 + chance.below(5)
    return Rule(**numbers, period=period, life=2 * asking_time(bounds, long) + chance.below(4))


def chance_call(chance, wires):
    """The name of a method and what it is told; some are refused."""
    hand, wire, name = chance.below(4), chance.below(3), chance.of(NAMES)
    on_way = [row[0] for row in wires.way()]
    kind = chance.below(100)
    if kind < 30 and on_way:
        return ("hand_over", (chance.of(on_way),), {"keep": chance.below(3) == 0})
    if kind < 40 and on_way:
        return ("lose", (chance.of(on_way),), {})
    if kind < 60:
        return ("tick", (), {})
    if kind < 78:
        return ("claim", (hand, name, chance.below(3)), {"tries": 1 + chance.below(3)})
    if kind < 83:
        return ("drop", (hand, name), {})
    if kind < 88:
        return ("ask", (hand, name), {})
    if kind < 91:
        return ("ask_all", (hand,), {})
    if kind < 95:
        return ("come", (hand, wire), {})
    if kind < 96:
        return ("go", (hand,), {})
    if kind < 98:
        return ("meet", (wire, chance.below(3)), {})
    hands = [other for other in wires.hands_on(wire) if chance.below(2)]
    return ("part", (wire, hands, chance.below(3)), {})


def answer_of(thing, call):
    """What the call returned, or the name of its refusal."""
    method, given, by_name = call
    try:
        return getattr(thing, method)(*given, **by_name)
    except REFUSALS as refusal:
        return type(refusal).__name__
    except Refused as refusal:
        return str(refusal)


def bring_due(wires, model, chance):
    """Let what holds a tick up come or be lost."""
    try:
        wires.tick()
    except Due as due:
        for number in due.numbers:
            call = ("lose", (number,), {}) if chance.below(2) else ("hand_over", (number,), {})
            if answer_of(wires, call) == "Owed":
                answer_of(model, call)
                call = ("hand_over", (number,), {})
                answer_of(wires, call)
            answer_of(model, call)
    else:
        model.tick()


class TheModel(unittest.TestCase):
    def walk(self, seed, steps):
        chance = Chance(seed)
        bounds = Bounds(lost=chance.below(3), late=1 + chance.below(3))
        rule = chance_rule(chance, bounds)
        numbers = (rule.probes, rule.gap, rule.wait, rule.repeats, rule.period, rule.life)
        wires, model = Wires(bounds, rule), Model(bounds.lost, bounds.late, *numbers)
        for hand in range(chance.below(4)):
            wires.come(hand, 0)
            model.come(hand, 0)
        for _ in range(steps):
            call = chance_call(chance, wires)
            answer = answer_of(wires, call)
            self.assertEqual(answer, answer_of(model, call), (seed, call))
            if answer == "Due":
                bring_due(wires, model, chance)
            self.assertEqual(told(wires), told(model), (seed, call))
        return wires, bounds, rule

    def test_wires_and_model_tell_the_same(self):
        kinds = {}
        for seed in range(120):
            wires, bounds, rule = self.walk(seed, 200)
            self.assertEqual(told(replay(bounds, rule, wires.script())), told(wires))
            for note in wires.notes():
                kinds[note[1]] = kinds.get(note[1], 0) + 1
        # A walk in which nothing happens would show nothing.
        for word in ("holds", "gives way", "ends"):
            self.assertGreater(kinds[word], 100)


if __name__ == "__main__":
    unittest.main()
