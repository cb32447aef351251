"""What several tests need: small wires, everything that is told, chance made by rows of numbers."""

from wirenames.errors import IsOn, NoHand, NoLetter, NotOn, NoWire, WireError
from wirenames.rules import Bounds, Rule, least_rule
from wirenames.wires import Wires

REFUSALS = (WireError, NoHand, NoWire, NotOn, IsOn, NoLetter)

BOUNDS = Bounds(lost=1, late=2)
LEAST = least_rule(BOUNDS)

# Things that are neither whole numbers, names, bounds nor rules.
STRANGE = [
    None,
    True,
    False,
    "",
    "0",
    "A",
    "~" * 400,
    [],
    [0],
    (),
    (0,),
    (0, 1),
    [[[[[[0]]]]]],
    ([], [None, True, ("a",)]),
    [0] * 1000,
]

LONG = [10**59, -(10**59), 10**60 - 1, -1]

BOUNDS_AND_RULES = [Bounds(), LEAST]


def any_things():
    """Things none of which is a hand, wire, mark, tries, letter's number or name."""
    return STRANGE + LONG + BOUNDS_AND_RULES


def rule_of(probes=1, gap=1, wait=0, repeats=0, period=50, life=100):
    return Rule(probes=probes, gap=gap, wait=wait, repeats=repeats, period=period, life=life)


def wires_of(hands=0, bounds=BOUNDS, rule=LEAST, wire=0):
    """Wires with the hands 0, 1 .. on one wire."""
    wires = Wires(bounds, rule)
    for hand in range(hands):
        wires.come(hand, wire)
    return wires


def numbers(wires, kind=None, to=None, name=None, sender=None, sent=None, come=None):
    """The numbers of the copies on their way that are so."""
    wanted = (None, kind, sender, to, name, None, None, sent, come)
    return [
        row[0]
        for row in wires.way()
        if all(want is None or want == part for want, part in zip(wanted, row, strict=True))
    ]


def letters(wires, number=0):
    """The copies from this number on, as (kind, from, to, name)."""
    return [row[1:5] for row in wires.way() if row[0] >= number]


def hear_all(wires, **which):
    """Hand over all copies that are so and may come now."""
    for row in wires.way():
        if row[0] in numbers(wires, **which) and row[7] < wires.now():
            wires.hand_over(row[0])


def pass_ticks(wires, many):
    """Ticks in which each copy comes at the tick behind its sending."""
    for _ in range(many):
        wires.tick()
        hear_all(wires)


def lonely_ticks(wires, many):
    """Ticks at which no copy may be on its way for longer than it can be late."""
    for _ in range(many):
        wires.tick()


def told(wires):
    """Everything that wires tell."""
    names = ["a", "b", "b2", "c", "ab", "ab2", "x", "x2"]
    hands = sorted(sum([wires.hands_on(wire) for wire in range(4)], []))
    return (
        wires.way(),
        wires.now(),
        [wires.hands_on(wire) for wire in range(4)],
        [(hand, wires.claims_of(hand), wires.all_known(hand)) for hand in hands],
        [wires.who_holds(name) for name in names],
        wires.doubles(),
        [(wires.known_of(hand, name), wires.asking_of(hand, name)) for hand in hands for name in names],
        wires.notes(),
        wires.script(),
        len(wires),
    )


def replay(bounds, rule, script):
    """New wires that were told the calls of a script."""
    wires = Wires(bounds, rule)
    for call in script:
        do_call(wires, call)
    return wires


def do_call(wires, call):
    word, rest = call[0], call[1:]
    if word == "claim":
        hand, name, mark, tries = rest
        wires.claim(hand, name, mark, tries=tries)
    elif word == "part":
        wire, hands, other = rest
        wires.part(wire, list(hands), other)
    elif word == "keep":
        wires.hand_over(*rest, keep=True)
    else:
        deed = {
            "come": wires.come,
            "go": wires.go,
            "drop": wires.drop,
            "ask": wires.ask,
            "ask all": wires.ask_all,
            "join": wires.meet,
            "tick": wires.tick,
            "hand over": wires.hand_over,
            "lose": wires.lose,
        }[word]
        deed(*rest)


class Chance:
    """Numbers that look like chance and are the same each time."""

    def __init__(self, seed):
        self.seed = seed * 2654435761 % 2**64

    def below(self, many):
        self.seed = (self.seed * 6364136223846793005 + 1442695040888963407) % 2**64
        return (self.seed >> 33) % many

    def of(self, things):
        return things[self.below(len(things))]
