"""The wires with all hands on them: what is done there, and what is told of it."""

from wirenames.checks import is_hand, is_mark, is_tries, is_wire
from wirenames.claims import MOST_CLAIMS, begin_claim, claims_by_name, drop_claim, holding_claim
from wirenames.ears import all_entries, asking_word, begin_asking, begin_asking_all, entry_of, hear
from wirenames.errors import (
    Claimed,
    Due,
    IsOn,
    NoClaim,
    NoHand,
    NoHands,
    NoMark,
    NotEmpty,
    NotOn,
    NoTries,
    NoWire,
    SameWire,
    TooMany,
)
from wirenames.names import check_name
from wirenames.rules import check_fit
from wirenames.state import State, begin_member, end_member, hands_of
from wirenames.ticks import begin_tick, end_tick


def check_hand(hand):
    if not is_hand(hand):
        raise NoHand(hand)


def check_wire(wire):
    if not is_wire(wire):
        raise NoWire(wire)


def check_on(state, hand):
    check_hand(hand)
    if hand not in state.members:
        raise NotOn(hand)


def check_apart(wire, other):
    check_wire(other)
    if wire == other:
        raise SameWire("the two wires are one")


def are_hands(thing):
    """Whether it is a list of one or more unlike hands."""
    if not isinstance(thing, list) or not all([is_hand(hand) for hand in thing]):
        return False
    return len(thing) > 0 and len(set(thing)) == len(thing)


def check_hands(state, wire, hands):
    """Refuse what is no list of one or more unlike hands that all stand on the wire."""
    if not are_hands(hands):
        raise NoHands("these are no unlike hands")
    standing = hands_of(state, wire)
    if not all([hand in standing for hand in hands]):
        raise NoHands("these hands don't all stand on the wire")


def check_claim(mark, tries):
    if not is_mark(mark):
        raise NoMark("a mark is from 0 to 999")
    if not is_tries(tries):
        raise NoTries("tries are from 1 to 9")


def doubles_on(state, wire):
    """The names that more than one hand on the wire holds, with those hands."""
    holders = {}
    for hand in hands_of(state, wire):
        for claim in claims_by_name(state, hand):
            if claim.is_holding():
                holders.setdefault(claim.name, []).append(hand)
    return [(wire, name, tuple(holders[name])) for name in sorted(holders) if len(holders[name]) > 1]


class Wires:
    """Four wires, eight hands, and the letters between them, tick by tick."""

    def __init__(self, bounds, rule):
        check_fit(bounds, rule)
        self.state = State(bounds, rule)

    def come(self, hand, wire):
        """A hand comes onto a wire, with nothing."""
        check_hand(hand)
        check_wire(wire)
        if hand in self.state.members:
            raise IsOn(hand)
        begin_member(self.state, hand, wire)
        self.state.calls.append(("come", hand, wire))

    def go(self, hand):
        """A hand goes off its wire, and has nothing any more."""
        check_on(self.state, hand)
        end_member(self.state, hand)
        self.state.calls.append(("go", hand))

    def meet(self, wire, other):
        """Join the wires: all hands of the other one stand on the first one then."""
        check_wire(wire)
        check_apart(wire, other)
        for hand in hands_of(self.state, other):
            self.state.members[hand].wire = wire
        self.state.calls.append(("join", wire, other))

    def part(self, wire, hands, other):
        """Part hands of the wire off onto another one, on which no hand stands."""
        check_wire(wire)
        check_hands(self.state, wire, hands)
        check_apart(wire, other)
        if hands_of(self.state, other):
            raise NotEmpty("hands stand on the other wire")
        for hand in hands:
            self.state.members[hand].wire = other
        self.state.calls.append(("part", wire, tuple(sorted(hands)), other))

    def claim(self, hand, name, mark, *, tries=1):
        """The hand begins to claim the name."""
        check_on(self.state, hand)
        check_name(name)
        check_claim(mark, tries)
        claims = self.state.members[hand].claims
        if name in claims:
            raise Claimed("the hand claims that name already")
        if len(claims) >= MOST_CLAIMS:
            raise TooMany("the hand has as many claims as it may have")
        begin_claim(self.state, hand, name, mark, tries)
        self.state.calls.append(("claim", hand, name, mark, tries))

    def drop(self, hand, name):
        """The hand gives up its claim of the name."""
        check_on(self.state, hand)
        check_name(name)
        if name not in self.state.members[hand].claims:
            raise NoClaim("the hand has no claim of that name")
        drop_claim(self.state, hand, name)
        self.state.calls.append(("drop", hand, name))

    def ask(self, hand, name):
        """Tell `known` if the hand knows the name; else `asked`, and ask the others."""
        check_on(self.state, hand)
        check_name(name)
        self.state.calls.append(("ask", hand, name))
        if entry_of(self.state, hand, name) is not None:
            return "known"
        begin_asking(self.state, hand, name)
        return "asked"

    def ask_all(self, hand):
        """The hand asks the others for all their names."""
        check_on(self.state, hand)
        begin_asking_all(self.state, hand)
        self.state.calls.append(("ask all", hand))

    def tick(self):
        """End this tick and begin the next one."""
        due = self.state.post.overdue(self.state.moment)
        if due:
            raise Due(tuple(due))
        end_tick(self.state)
        begin_tick(self.state)
        self.state.calls.append(("tick",))

    def hand_over(self, number, *, keep=False):
        """A copy comes; one that is kept may come again."""
        copy = self.state.post.take(number, keep, self.state.moment)
        hear(self.state, copy.to, copy.letter)
        self.state.calls.append(("keep" if keep else "hand over", number))

    def lose(self, number):
        """A copy goes unheard."""
        self.state.post.lose(number)
        self.state.calls.append(("lose", number))

    def way(self):
        """The copies on their way, by rising numbers."""
        return self.state.post.rows()

    def now(self):
        """The tick."""
        return self.state.moment

    def hands_on(self, wire):
        """The hands on a wire, rising."""
        check_wire(wire)
        return hands_of(self.state, wire)

    def claims_of(self, hand):
        """The hand's claims by names: (name, mark, tries, stand, tick of its beginning)."""
        check_on(self.state, hand)
        return [claim.row() for claim in claims_by_name(self.state, hand)]

    def who_holds(self, name):
        """All that hold the name, as pairs (wire, hand), rising."""
        check_name(name)
        members = self.state.members
        hands = [hand for hand in members if holding_claim(self.state, hand, name) is not None]
        return sorted([(members[hand].wire, hand) for hand in hands])

    def doubles(self):
        """Names that more than one hand on a wire holds: (wire, name, hands)."""
        wires = sorted(set([member.wire for member in self.state.members.values()]))
        return [row for wire in wires for row in doubles_on(self.state, wire)]

    def known_of(self, hand, name):
        """What the hand knows of the name: (hand, mark, age), or None."""
        check_on(self.state, hand)
        check_name(name)
        return entry_of(self.state, hand, name)

    def all_known(self, hand):
        """All that the hand knows, by names: (name, hand, mark, age)."""
        check_on(self.state, hand)
        return all_entries(self.state, hand)

    def asking_of(self, hand, name):
        """The hand's asking for the name: `open`, `none` or `not asked`."""
        check_on(self.state, hand)
        check_name(name)
        return asking_word(self.state, hand, name)

    def notes(self):
        """All that was noted, in order."""
        return list(self.state.note_rows)

    def noted(self, deed):
        """The notes that are made while the deed is called with these wires."""
        before = len(self.state.note_rows)
        deed(self)
        return self.state.note_rows[before:]

    def script(self):
        """All calls that were done, in order."""
        return list(self.state.calls)

    def __len__(self):
        return len(self.state.post.copies)
