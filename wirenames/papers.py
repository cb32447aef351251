"""Papers of histories: by weaker rules, and of wires."""

from wirenames.errors import NoLess, NoPaper, NoSaying, Owed
from wirenames.looker import holds
from wirenames.rules import Rule, claiming_time, least_rule
from wirenames.wires import Wires

WORDS = ("probes", "repeats", "wait")
WIRE = 0
NAME = "a"
HOLDER = 0
NEWCOMER = 1


def weaker_rule(bounds, word, *, gap=1):
    """The least rule with one less of what the word says."""
    least = least_rule(bounds, gap=gap)
    if word not in WORDS:
        raise NoSaying("the word is probes, repeats or wait")
    parts = {"probes": least.probes, "repeats": least.repeats, "wait": least.wait}
    if parts[word] == 0:
        raise NoLess("the least rule has none of it")
    parts[word] -= 1
    return Rule(
        probes=parts["probes"],
        gap=least.gap,
        wait=parts["wait"],
        repeats=parts["repeats"],
        period=least.period,
        life=least.life,
    )


def history_of(wires):
    """What each paper of these wires begins with behind its word: bounds, rule and script."""
    bounds = wires.state.bounds
    rule = wires.state.rule
    numbers = (rule.probes, rule.gap, rule.wait, rule.repeats, rule.period, rule.life)
    return ((bounds.lost, bounds.late), numbers, wires.script())


def lose_if_may(wires, number):
    try:
        wires.lose(number)
    except Owed:
        return False
    return True


def fare_badly(wires, late):
    """Lose all copies that may be lost; the others come, each as late as may be."""
    for row in wires.way():
        if not lose_if_may(wires, row[0]) and wires.now() - row[7] == late:
            wires.hand_over(row[0])


def begin(wires, hand):
    wires.come(hand, WIRE)
    wires.claim(hand, NAME, 0)


def weaker_paper(bounds, word, *, gap=1):
    """A paper of a history in which two hold one name by the weaker rule."""
    rule = weaker_rule(bounds, word, gap=gap)
    wires = Wires(bounds, rule)
    ticks = claiming_time(rule) + 1
    begin(wires, HOLDER)
    # The holder's first letter `hold` is sent to nobody; the next one is a whole period off.
    for tick in range(ticks):
        wires.tick()
    begin(wires, NEWCOMER)
    for tick in range(ticks):
        fare_badly(wires, bounds.late)
        wires.tick()
    return ("two",) + history_of(wires) + (WIRE, NAME)


def one_paper(wires):
    """A paper that no two on one wire ever held one name."""
    paper = ("one",) + history_of(wires)
    if not holds(paper):
        raise NoPaper("two on one wire held one name")
    return paper


def known_paper(wires, hand, name):
    """A paper of what the hand knows of the name from another hand."""
    entry = wires.known_of(hand, name)
    if entry is None or entry[0] == hand:
        raise NoPaper("the hand doesn't know the name from another hand")
    other, mark, age = entry
    return ("known",) + history_of(wires) + (hand, name, age, other, mark)
