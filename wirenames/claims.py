"""Claims: how they begin, answer, give way, hold and are dropped."""

from wirenames.letters import GONE, HOLD, PROBE, is_turn
from wirenames.names import has_next, is_greater, next_name
from wirenames.rules import claiming_time
from wirenames.state import send_letter

MOST_CLAIMS = 3
PROBING = "probing"
HOLDING = "holding"


class Claim:
    """One hand's claim of a name; its letters hang on the ticks that it keeps."""

    def __init__(self, name, mark, tries, since):
        self.name = name
        self.mark = mark
        self.tries = tries
        self.stand = PROBING
        self.since = since
        self.first_hold = None
        self.answered = None
        self.last_letter = None

    def is_holding(self):
        return self.stand == HOLDING

    def row(self):
        return (self.name, self.mark, self.tries, self.stand, self.since)


def claims_by_name(state, hand):
    claims = state.members[hand].claims
    return [claims[name] for name in sorted(claims)]


def holding_claim(state, hand, name):
    """The hand's claim of the name, if it holds it, else None."""
    claim = state.members[hand].claims.get(name)
    if claim is None or not claim.is_holding():
        return None
    return claim


def tell_claim(state, hand, claim):
    """Send the claim's letter, unless one about it was sent at this tick."""
    if claim.last_letter == state.moment:
        return
    claim.last_letter = state.moment
    kind = HOLD if claim.is_holding() else PROBE
    send_letter(state, hand, kind, claim.name, mark=claim.mark)


def begin_claim(state, hand, name, mark, tries):
    claim = Claim(name, mark, tries, state.moment)
    state.members[hand].claims[name] = claim
    if state.rule.probes > 0:
        tell_claim(state, hand, claim)


def answer(state, hand, claim):
    tell_claim(state, hand, claim)
    claim.answered = state.moment


def drop_claim(state, hand, name):
    claim = state.members[hand].claims.pop(name)
    if claim.is_holding():
        send_letter(state, hand, GONE, name)


def give_way(state, hand, claim, letter):
    """The claim is gone; one of the next name begins, if there is a try left for it."""
    claims = state.members[hand].claims
    del claims[claim.name]
    who = (hand, claim.name, claim.mark, claim.stand)
    to_whom = (letter.sender, letter.kind, letter.mark)
    state.note_rows.append((state.moment, "gives way") + who + to_whom)
    if claim.tries == 1 or not has_next(claim.name):
        return
    name = next_name(claim.name)
    if name not in claims:
        begin_claim(state, hand, name, claim.mark, claim.tries - 1)


def stays(hand, claim, letter):
    """Whether the claim stays against a letter `probe` or `hold` of another hand."""
    if claim.is_holding() and letter.kind == PROBE:
        return True
    if not claim.is_holding() and letter.kind == HOLD:
        return False
    return is_greater((claim.mark, hand), (letter.mark, letter.sender))


def meet_letter(state, hand, letter):
    """What a letter `probe` or `hold` does to the hand's claim of its name."""
    claim = state.members[hand].claims.get(letter.name)
    if claim is None:
        return
    if stays(hand, claim, letter):
        answer(state, hand, claim)
    else:
        give_way(state, hand, claim, letter)


def hold_if_time(state, hand, claim):
    """Make it holding at the end of its claiming time."""
    if claim.is_holding() or state.moment < claim.since + claiming_time(state.rule):
        return
    claim.stand = HOLDING
    claim.first_hold = state.moment + 1
    state.note_rows.append((state.moment, "holds", hand, claim.name, claim.mark))


def is_probe_due(claim, rule, moment):
    return is_turn(claim.since, rule.gap, rule.probes - 1, moment)


def is_repeat_due(claim, rule, moment):
    return claim.answered is not None and is_turn(claim.answered, rule.gap, rule.repeats, moment)


def is_hold_due(claim, rule, moment):
    return claim.is_holding() and (moment - claim.first_hold) % rule.period == 0


def is_letter_due(claim, rule, moment):
    """Whether any of the claim's letters is due; several at one tick are one letter."""
    return (
        is_probe_due(claim, rule, moment)
        or is_repeat_due(claim, rule, moment)
        or is_hold_due(claim, rule, moment)
    )


def send_due_claims(state, hand):
    for claim in claims_by_name(state, hand):
        if is_letter_due(claim, state.rule, state.moment):
            tell_claim(state, hand, claim)
