"""The looker: goes along the script of a paper and says whether the paper is so."""

from wirenames.checks import is_whole, is_wire
from wirenames.errors import NoBounds, NoHand, NoName, NoRule, NoScript, NotOn
from wirenames.rules import Bounds, Rule
from wirenames.scripts import gone_along, step, wires_for


def bounds_of(thing):
    """The bounds that stand in a paper as (lost, late)."""
    if not isinstance(thing, tuple) or len(thing) != 2:
        raise NoBounds("bounds are told as (lost, late)")
    lost, late = thing
    return Bounds(lost=lost, late=late)


def rule_of(thing):
    """The rule that stands in a paper as (probes, gap, wait, repeats, period, life)."""
    if not isinstance(thing, tuple) or len(thing) != 6:
        raise NoRule("a rule is told as its six numbers")
    probes, gap, wait, repeats, period, life = thing
    return Rule(probes=probes, gap=gap, wait=wait, repeats=repeats, period=period, life=life)


def is_two(bounds, rule, script, wire, name):
    """Whether without any joining two on the wire come to hold the name."""
    wires = gone_along(bounds, rule, script)
    if not is_wire(wire) or any([call[0] == "join" for call in script]):
        return False
    return any([row[0] == wire and row[1] == name for row in wires.doubles()])


def is_one(bounds, rule, script):
    """Whether behind no call two on one wire hold one name."""
    wires = wires_for(bounds, rule, script)
    for at in range(len(script)):
        step(wires, script, at)
        if wires.doubles():
            return False
    return True


def is_holder(wires, hand, name, mark):
    holders = [holder for wire, holder in wires.who_holds(name)]
    # Who holds a name knows it by itself, with its own mark.
    return hand in holders and wires.known_of(hand, name) == (hand, mark, 0)


def is_known(bounds, rule, script, hand, name, entry):
    """Whether the hand knows the name by this entry, (hand, mark, age), and it was so in that time."""
    other, mark, age = entry
    # True and 1 are the same to Python, and so are the tuples that they stand in.
    if not all([is_whole(part) for part in entry]) or other == hand:
        return False
    wires = wires_for(bounds, rule, script)
    last = None
    for at in range(len(script)):
        step(wires, script, at)
        if is_holder(wires, other, name, mark):
            last = wires.now()
    return wires.known_of(hand, name) == entry and last is not None and wires.now() - last <= age


def is_so(paper):
    match paper:
        case ("two", bounds, rule, script, wire, name):
            return is_two(bounds_of(bounds), rule_of(rule), script, wire, name)
        case ("one", bounds, rule, script):
            return is_one(bounds_of(bounds), rule_of(rule), script)
        case ("known", bounds, rule, script, hand, name, age, other, mark):
            return is_known(bounds_of(bounds), rule_of(rule), script, hand, name, (other, mark, age))
        case _:
            return False


def holds(paper):
    """Whether any thing is a paper that is so, whoever wrote it."""
    # A pattern lets lists by as well, but a paper is a tuple.
    if not isinstance(paper, tuple):
        return False
    try:
        return is_so(paper)
    except (NoBounds, NoRule, NoScript, NoHand, NotOn, NoName):
        return False
