"""Long rows of calls of chance, told to the wires and to the slow model: all answers are the same."""

import unittest

from tests.helper import Chance, REFUSALS, replay, told
from tests.model import Model, Refused
from tests.walks import chance_bounds, chance_call, chance_rule
from wirenames.errors import Due
from wirenames.wires import Wires


def answer_of(thing, call):
    """What the call returned, or the name of its refusal."""
    method, given, by_name = call
    try:
        return getattr(thing, method)(*given, **by_name)
    except REFUSALS as refusal:
        return type(refusal).__name__
    except Refused as refusal:
        return str(refusal)


def bring_due(wires, model, chance):
    """Let what holds a tick up come or be lost."""
    try:
        wires.tick()
    except Due as due:
        for number in due.numbers:
            call = ("lose", (number,), {}) if chance.below(2) else ("hand_over", (number,), {})
            if answer_of(wires, call) == "Owed":
                answer_of(model, call)
                call = ("hand_over", (number,), {})
                answer_of(wires, call)
            answer_of(model, call)
    else:
        model.tick()


class TheModel(unittest.TestCase):
    def walk(self, seed, steps):
        chance = Chance(seed)
        bounds = chance_bounds(chance)
        rule = chance_rule(chance, bounds)
        numbers = (rule.probes, rule.gap, rule.wait, rule.repeats, rule.period, rule.life)
        wires, model = Wires(bounds, rule), Model(bounds.lost, bounds.late, *numbers)
        for hand in range(chance.below(4)):
            wires.come(hand, 0)
            model.come(hand, 0)
        for _ in range(steps):
            call = chance_call(chance, wires)
            answer = answer_of(wires, call)
            self.assertEqual(answer, answer_of(model, call), (seed, call))
            if answer == "Due":
                bring_due(wires, model, chance)
            self.assertEqual(told(wires), told(model), (seed, call))
        return wires, bounds, rule

    def test_wires_and_model_tell_the_same(self):
        kinds = {}
        for seed in range(120):
            wires, bounds, rule = self.walk(seed, 200)
            self.assertEqual(told(replay(bounds, rule, wires.script())), told(wires))
            for note in wires.notes():
                kinds[note[1]] = kinds.get(note[1], 0) + 1
        # A walk in which nothing happens would show nothing.
        for word in ("holds", "gives way", "ends"):
            self.assertGreater(kinds[word], 100)


if __name__ == "__main__":
    unittest.main()
