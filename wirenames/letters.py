"""Letters, their copies on the way, and the threads that say how many may be lost."""

from wirenames.checks import is_whole
from wirenames.errors import Came, Early, NoLetter, Owed

PROBE = "probe"
HOLD = "hold"
GONE = "gone"
ASK = "ask"

ON_WAY = 0
COME = 1
LOST = 2


def is_turn(begin, gap, many, moment):
    """Whether it is one of the many ticks that follow begin by gaps."""
    ticks = moment - begin
    return 0 < ticks <= many * gap and ticks % gap == 0


class Letter:
    """What a hand says to all others on its wire at a tick."""

    def __init__(self, sender, kind, name, mark, known, sent):
        self.sender = sender
        self.kind = kind
        self.name = name
        self.mark = mark
        self.known = known
        self.sent = sent


class Copy:
    """A letter on its way to one hand; it keeps its thread whatever becomes of the hands."""

    def __init__(self, number, letter, to, thread):
        self.number = number
        self.letter = letter
        self.to = to
        self.thread = thread
        self.place = len(thread)

    def has_come(self):
        return self.thread[self.place] == COME

    def row(self):
        letter = self.letter
        return (
            self.number,
            letter.kind,
            letter.sender,
            self.to,
            letter.name,
            letter.mark,
            letter.known,
            letter.sent,
            self.has_come(),
        )


def lost_in_a_row(thread, place):
    """How many copies in a row would be lost, if the one at this place were."""
    low = place
    while low > 0 and thread[low - 1] == LOST:
        low -= 1
    high = place + 1
    while high < len(thread) and thread[high] == LOST:
        high += 1
    return high - low


class Post:
    """All copies on their way, by rising numbers, and the threads between the hands."""

    def __init__(self, bounds):
        self.bounds = bounds
        self.copies = {}
        # The same copies by the hands that they are for: a hand may go off with few among many.
        self.inboxes = {}
        self.threads = {}
        self.made = 0

    def send(self, letter, hands):
        """Make a copy for each of the hands, which rise."""
        for hand in hands:
            thread = self.thread_to(letter, hand)
            self.lay(Copy(self.made, letter, hand, thread))
            thread.append(ON_WAY)
            self.made += 1

    def lay(self, copy):
        self.copies[copy.number] = copy
        self.inboxes.setdefault(copy.to, {})[copy.number] = True

    def put_away(self, copy):
        del self.copies[copy.number]
        del self.inboxes[copy.to][copy.number]

    def thread_to(self, letter, hand):
        between = self.threads.setdefault((letter.sender, hand), {})
        return between.setdefault((letter.kind == ASK, letter.name), [])

    def begin_threads(self, hand):
        """Leave the threads of a hand that comes; copies on their way keep them."""
        for pair in list(self.threads):
            if hand in pair:
                del self.threads[pair]

    def copy_of(self, number):
        if not is_whole(number) or number not in self.copies:
            raise NoLetter(number)
        return self.copies[number]

    def take(self, number, keep, moment):
        """The copy, come at this tick; it goes on its way again if it is to be kept."""
        copy = self.copy_of(number)
        if copy.letter.sent >= moment:
            raise Early(number)
        copy.thread[copy.place] = COME
        if not keep:
            self.put_away(copy)
        return copy

    def lose(self, number):
        copy = self.copy_of(number)
        if copy.has_come():
            raise Came(number)
        if lost_in_a_row(copy.thread, copy.place) > self.bounds.lost:
            raise Owed(number)
        copy.thread[copy.place] = LOST
        self.put_away(copy)

    def is_late(self, copy, moment):
        return moment - copy.letter.sent >= self.bounds.late

    def overdue(self, moment):
        """The numbers of copies that must come, or be lost, ahead of this tick's end."""
        copies = list(self.copies.values())
        return [copy.number for copy in copies if self.is_late(copy, moment) and not copy.has_come()]

    def clear_late(self, moment):
        copies = list(self.copies.values())
        self.copies = {}
        self.inboxes = {}
        for copy in copies:
            if not self.is_late(copy, moment):
                self.lay(copy)

    def clear_to(self, hand):
        numbers = self.inboxes.pop(hand, {})
        for number in numbers:
            del self.copies[number]

    def rows(self):
        copies = list(self.copies.values())
        return [copy.row() for copy in copies]
