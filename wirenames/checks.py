"""What a whole number is, and which of them are hands, wires, marks and tries."""


def is_whole(thing):
    """Whether it is an int that is no truth."""
    return isinstance(thing, int) and not isinstance(thing, bool)


def is_within(thing, low, high):
    """Whether it is a whole number from low to high."""
    return is_whole(thing) and low <= thing <= high


def is_hand(thing):
    return is_within(thing, 0, 7)


def is_wire(thing):
    return is_within(thing, 0, 3)


def is_mark(thing):
    return is_within(thing, 0, 999)


def is_tries(thing):
    return is_within(thing, 1, 9)


def is_gap(thing):
    return is_within(thing, 1, 5)


def are_rising(things):
    """Whether they are whole numbers, each greater than the one ahead of it."""
    if not all([is_whole(thing) for thing in things]):
        return False
    return all([low < high for low, high in zip(things, things[1:])])
