"""What stands on the wires: hands with all that they have, copies, notes and calls."""

from wirenames.letters import Letter, Post


class Member:
    """What a hand has as long as it stands on a wire."""

    def __init__(self, wire):
        self.wire = wire
        self.claims = {}
        self.ear = {}
        self.askings = {}
        self.unfound = {}
        self.all_asked = None


class State:
    """All that wires know; the calls that were done are kept for their script."""

    def __init__(self, bounds, rule):
        self.bounds = bounds
        self.rule = rule
        self.moment = 0
        self.members = {}
        self.post = Post(bounds)
        self.note_rows = []
        self.calls = []


def hands_of(state, wire):
    """The hands on the wire, rising."""
    members = state.members
    return sorted([hand for hand in members if members[hand].wire == wire])


def send_letter(state, hand, kind, name, *, mark=0, known=()):
    """Send it to all others that stand on the hand's wire now."""
    wire = state.members[hand].wire
    others = [other for other in hands_of(state, wire) if other != hand]
    letter = Letter(hand, kind, name, mark, known, state.moment)
    state.post.send(letter, others)


def begin_member(state, hand, wire):
    state.members[hand] = Member(wire)
    state.post.begin_threads(hand)


def end_member(state, hand):
    del state.members[hand]
    state.post.clear_to(hand)
