"""The end of a tick, and the letters with which the next one begins."""

from wirenames.claims import claims_by_name, hold_if_time, send_due_claims
from wirenames.ears import end_askings, send_due_askings


def end_tick(state):
    """Copies, claims and askings whose time is there: away, holding, ended."""
    state.post.clear_late(state.moment)
    hands = sorted(state.members)
    for hand in hands:
        for claim in claims_by_name(state, hand):
            hold_if_time(state, hand, claim)
    for hand in hands:
        end_askings(state, hand)


def begin_tick(state):
    """The next tick, with the letters that are due at it."""
    state.moment += 1
    for hand in sorted(state.members):
        send_due_claims(state, hand)
        send_due_askings(state, hand)
