"""The refusals: of what isn't as told, and of what was looked for and isn't there."""


def kept(thing):
    """The thing with lists of its own: whoever handed one in may change it later."""
    if isinstance(thing, list):
        return [kept(part) for part in thing]
    if isinstance(thing, tuple):
        return tuple([kept(part) for part in thing])
    return thing


class WireError(ValueError):
    """A refusal of something that isn't as it must be."""


class NoName(WireError):
    """What was handed in is no name."""


class NoMark(WireError):
    """What was handed in is no mark."""


class NoTries(WireError):
    """What was handed in is no number of tries."""


class NoBounds(WireError):
    """What was handed in are no bounds, or none can be made of it."""


class NoRule(WireError):
    """What was handed in is no rule, none can be made of it, or it doesn't fit the bounds."""


class NoHands(WireError):
    """What was handed in is no list of hands of that wire."""


class NoNext(WireError):
    """There is no next name."""


class NoLess(WireError):
    """The least rule has nothing of it that could be less."""


class NoPaper(WireError):
    """There is no such paper of these wires."""


class NoSaying(WireError):
    """The word or the row is none of those that are told."""


class TooMany(WireError):
    """The hand has as many claims as it may have."""


class Claimed(WireError):
    """The hand has a claim of that name already."""


class NoClaim(WireError):
    """The hand has no claim of that name."""


class SameWire(WireError):
    """The two wires are one."""


class NotEmpty(WireError):
    """Hands stand on the wire that should be empty."""


class NoScript(WireError):
    """The script can't be gone along; at is the place of the first wrong thing, or None."""

    def __init__(self, at):
        super().__init__("the script can't be gone along")
        self.at = at


class Early(WireError):
    """The copy was sent at this very tick."""

    def __init__(self, number):
        super().__init__("the copy can't come at the tick of its sending")
        self.number = number


class Came(WireError):
    """The copy has come and can't be lost any more."""

    def __init__(self, number):
        super().__init__("the copy has come already")
        self.number = number


class Owed(WireError):
    """Too many copies in a row of the thread would be lost."""

    def __init__(self, number):
        super().__init__("too many copies in a row would be lost")
        self.number = number


class Due(WireError):
    """Copies must come, or be lost, ahead of the tick's end; numbers tells which."""

    def __init__(self, numbers):
        super().__init__("some copies must come or be lost first")
        self.numbers = numbers


class NoHand(LookupError):
    """What was handed in is no hand."""

    def __init__(self, hand):
        super().__init__("this is no hand")
        self.hand = kept(hand)


class NoWire(LookupError):
    """What was handed in is no wire."""

    def __init__(self, wire):
        super().__init__("this is no wire")
        self.wire = kept(wire)


class NotOn(LookupError):
    """The hand stands on no wire."""

    def __init__(self, hand):
        super().__init__("the hand stands on no wire")
        self.hand = kept(hand)


class IsOn(LookupError):
    """The hand stands on a wire already."""

    def __init__(self, hand):
        super().__init__("the hand stands on a wire already")
        self.hand = kept(hand)


class NoLetter(LookupError):
    """No copy of that number is on its way."""

    def __init__(self, number):
        super().__init__("no copy of that number is on its way")
        self.number = kept(number)
