"""What a hand knows of the others' names, and its askings for them."""

from wirenames.claims import answer, claims_by_name, holding_claim, meet_letter
from wirenames.letters import ASK, GONE, HOLD, is_turn
from wirenames.rules import asking_time
from wirenames.state import send_letter


def heard_of(state, hand, name):
    """The ear's (hand, mark, ticks since it was heard), or None where it's too old."""
    entry = state.members[hand].ear.get(name)
    if entry is None:
        return None
    other, mark, heard = entry
    age = state.moment - heard
    if age > state.rule.life:
        return None
    return (other, mark, age)


def entry_of(state, hand, name):
    """What the hand knows of the name: (hand, mark, age), or None."""
    claim = holding_claim(state, hand, name)
    if claim is not None:
        return (hand, claim.mark, 0)
    heard = heard_of(state, hand, name)
    if heard is None:
        return None
    other, mark, age = heard
    # What is heard now may have been sent as long ago as a copy may be late.
    return (other, mark, age + state.bounds.late)


def all_entries(state, hand):
    """All that the hand knows, by names: (name, hand, mark, age)."""
    member = state.members[hand]
    names = sorted(set(list(member.ear) + list(member.claims)))
    rows = []
    for name in names:
        entry = entry_of(state, hand, name)
        if entry is not None:
            rows.append((name, *entry))
    return rows


def young_pairs(state, hand):
    """The pairs (name, hand) that need no answer, as they are known for long yet."""
    pairs = []
    for name in sorted(state.members[hand].ear):
        heard = heard_of(state, hand, name)
        if heard is not None and 2 * heard[2] <= state.rule.life:
            pairs.append((name, heard[0]))
    return tuple(pairs)


def begin_asking(state, hand, name):
    """Ask for the name, unless an asking for it is on its way."""
    member = state.members[hand]
    if name in member.askings:
        return
    member.unfound.pop(name, None)
    member.askings[name] = state.moment
    send_letter(state, hand, ASK, name)


def send_ask_all(state, hand):
    send_letter(state, hand, ASK, "", known=young_pairs(state, hand))


def begin_asking_all(state, hand):
    state.members[hand].all_asked = state.moment
    send_ask_all(state, hand)


def asking_word(state, hand, name):
    member = state.members[hand]
    if name in member.askings:
        return "open"
    return "none" if name in member.unfound else "not asked"


def end_askings(state, hand):
    """End those whose time is there, unfound."""
    member = state.members[hand]
    span = asking_time(state.bounds, state.rule)
    names = sorted(member.askings)
    for name in names:
        if state.moment >= member.askings[name] + span:
            del member.askings[name]
            member.unfound[name] = True
            state.note_rows.append((state.moment, "ends", hand, name))


def send_due_askings(state, hand):
    member = state.members[hand]
    rule = state.rule
    if member.all_asked is not None and is_turn(member.all_asked, rule.gap, rule.repeats, state.moment):
        send_ask_all(state, hand)
    for name in sorted(member.askings):
        if is_turn(member.askings[name], rule.gap, rule.repeats, state.moment):
            send_letter(state, hand, ASK, name)


def hear_hold(state, hand, letter):
    member = state.members[hand]
    member.ear[letter.name] = (letter.sender, letter.mark, state.moment)
    member.askings.pop(letter.name, None)
    member.unfound.pop(letter.name, None)


def hear_gone(state, hand, letter):
    ear = state.members[hand].ear
    if letter.name in ear and ear[letter.name][0] == letter.sender:
        del ear[letter.name]


def hear_ask(state, hand, letter):
    claim = holding_claim(state, hand, letter.name)
    if claim is not None:
        answer(state, hand, claim)


def hear_ask_all(state, hand, letter):
    for claim in claims_by_name(state, hand):
        if claim.is_holding() and (claim.name, hand) not in letter.known:
            answer(state, hand, claim)


def hear(state, hand, letter):
    """All that a letter does to the hand that hears it."""
    if letter.kind == ASK and letter.name == "":
        hear_ask_all(state, hand, letter)
    elif letter.kind == ASK:
        hear_ask(state, hand, letter)
    elif letter.kind == GONE:
        hear_gone(state, hand, letter)
    else:
        if letter.kind == HOLD:
            hear_hold(state, hand, letter)
        meet_letter(state, hand, letter)
