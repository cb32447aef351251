"""Rows of calls of chance: what is told to the wires, and histories made so."""

from tests.helper import Chance, REFUSALS
from wirenames.errors import Due
from wirenames.rules import Bounds, Rule, asking_time, claiming_time, least_rule
from wirenames.wires import Wires

NAMES = ("a", "b", "b2", "x", "x2")


def chance_bounds(chance):
    return Bounds(lost=chance.below(3), late=1 + chance.below(3))


def chance_rule(chance, bounds):
    """The least rule, or another one that fits the bounds."""
    if chance.below(3) == 0:
        return least_rule(bounds, gap=1 + chance.below(3))
    numbers = {"probes": chance.below(4), "gap": 1 + chance.below(3), "wait": chance.below(5)}
    numbers["repeats"] = chance.below(4)
    long = Rule(**numbers, period=400, life=400)
    period = claiming_time(long) + 2 + chance.below(5)
    return Rule(**numbers, period=period, life=2 * asking_time(bounds, long) + chance.below(4))


def chance_call(chance, wires):
    """The name of a method and what it is told; some are refused."""
    hand, wire, name = chance.below(4), chance.below(3), chance.of(NAMES)
    on_way = [row[0] for row in wires.way()]
    kind = chance.below(100)
    if kind < 30 and on_way:
        return ("hand_over", (chance.of(on_way),), {"keep": chance.below(3) == 0})
    if kind < 40 and on_way:
        return ("lose", (chance.of(on_way),), {})
    if kind < 60:
        return ("tick", (), {})
    if kind < 78:
        return ("claim", (hand, name, chance.below(3)), {"tries": 1 + chance.below(3)})
    if kind < 83:
        return ("drop", (hand, name), {})
    if kind < 88:
        return ("ask", (hand, name), {})
    if kind < 91:
        return ("ask_all", (hand,), {})
    if kind < 95:
        return ("come", (hand, wire), {})
    if kind < 96:
        return ("go", (hand,), {})
    if kind < 98:
        return ("meet", (wire, chance.below(3)), {})
    hands = [other for other in wires.hands_on(wire) if chance.below(2)]
    return ("part", (wire, hands, chance.below(3)), {})


def let_due_come(wires, numbers, chance):
    for number in numbers:
        try:
            if chance.below(2):
                wires.lose(number)
                continue
        except REFUSALS:
            pass
        wires.hand_over(number, keep=chance.below(4) == 0)


def hasty_rule(bounds):
    """A rule by which two soon hold one name."""
    return Rule(probes=0, gap=1, wait=0, repeats=0, period=9, life=4 * bounds.late)


def walked(seed, steps, hasty=False):
    """Wires that were told so many calls, some of them refused, with their bounds and rule."""
    chance = Chance(seed)
    bounds = chance_bounds(chance)
    rule = hasty_rule(bounds) if hasty else chance_rule(chance, bounds)
    wires = Wires(bounds, rule)
    for hand in range(1 + chance.below(3)):
        wires.come(hand, 0)
        if hasty:
            wires.claim(hand, "a", hand)
    for _ in range(steps):
        method, given, by_name = chance_call(chance, wires)
        try:
            getattr(wires, method)(*given, **by_name)
        except Due as due:
            let_due_come(wires, due.numbers, chance)
        except REFUSALS:
            pass
    return wires, bounds, rule
