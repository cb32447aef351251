"""Scripts: the calls that were done on wires, told to new ones."""

from wirenames.checks import are_rising
from wirenames.errors import IsOn, NoHand, NoHands, NoLetter, NoSaying, NoScript, NotOn, NoWire, WireError
from wirenames.wires import Wires

MOST_CALLS = 2000


def part_off(wires, wire, hands, other):
    """Part hands off; in a call they are a tuple, rising, so that each parting has one writing."""
    if not isinstance(hands, tuple) or not are_rising(hands):
        raise NoHands("the hands of a call are a tuple, rising")
    wires.part(wire, list(hands), other)


def do_call(wires, call):
    """Tell the wires a call; what is no call is refused, too."""
    # A pattern lets lists by as well, but a call is a tuple.
    if not isinstance(call, tuple):
        raise NoSaying("a call is a tuple")
    match call:
        case ("come", hand, wire):
            wires.come(hand, wire)
        case ("go", hand):
            wires.go(hand)
        case ("claim", hand, name, mark, tries):
            wires.claim(hand, name, mark, tries=tries)
        case ("drop", hand, name):
            wires.drop(hand, name)
        case ("ask", hand, name):
            wires.ask(hand, name)
        case ("ask all", hand):
            wires.ask_all(hand)
        case ("join", wire, other):
            wires.meet(wire, other)
        case ("part", wire, hands, other):
            part_off(wires, wire, hands, other)
        case ("tick",):
            wires.tick()
        case ("hand over", number):
            wires.hand_over(number)
        case ("keep", number):
            wires.hand_over(number, keep=True)
        case ("lose", number):
            wires.lose(number)
        case _:
            raise NoSaying("this is no call")


def step(wires, script, at):
    """Do the call at this place of the script."""
    try:
        do_call(wires, script[at])
    except (WireError, NoHand, NoWire, NotOn, IsOn, NoLetter):
        raise NoScript(at) from None


def wires_for(bounds, rule, script):
    """New wires, ahead of the first call of the script."""
    wires = Wires(bounds, rule)
    if not isinstance(script, list) or len(script) > MOST_CALLS:
        raise NoScript(None)
    return wires


def gone_along(bounds, rule, script):
    """New wires that were told all calls of the script."""
    wires = wires_for(bounds, rule, script)
    for at in range(len(script)):
        step(wires, script, at)
    return wires
