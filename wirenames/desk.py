"""A desk: wires that are told rows of words and answer texts."""

from wirenames.checks import are_rising
from wirenames.errors import NoSaying
from wirenames.scripts import do_call
from wirenames.wires import Wires

FIGURES = "0123456789"


def words_of(row):
    """The words of a row, each of a sign at least."""
    if not isinstance(row, str):
        raise NoSaying("a row is a text")
    words = row.split(" ")
    if "" in words:
        raise NoSaying("between words stands one blank")
    return words


def are_figures(text):
    """Whether they are figures of a whole number, with no nought ahead."""
    if not text or not all([sign in FIGURES for sign in text]):
        return False
    return text == "0" or text[0] != "0"


def whole_of(word):
    """The whole number that the word writes."""
    is_below = word[0] == "-"
    figures = word[1:] if is_below else word
    if not are_figures(figures) or word == "-0":
        raise NoSaying("a whole number is due here")
    number = 0
    # Figure by figure: `int` refuses long texts.
    for sign in figures:
        number = number * 10 + FIGURES.index(sign)
    return -number if is_below else number


def hands_of_row(words):
    hands = tuple([whole_of(word) for word in words])
    if not hands or not are_rising(hands):
        raise NoSaying("hands are told one by one, rising")
    return hands


def call_of(words):
    """The call of a script that a row of these words is, or None."""
    match words:
        case ["come", hand, wire]:
            return ("come", whole_of(hand), whole_of(wire))
        case ["go", hand]:
            return ("go", whole_of(hand))
        case ["claim", hand, name, mark, tries]:
            return ("claim", whole_of(hand), name, whole_of(mark), whole_of(tries))
        case ["drop", hand, name]:
            return ("drop", whole_of(hand), name)
        case ["all", hand]:
            return ("ask all", whole_of(hand))
        case ["join", wire, other]:
            return ("join", whole_of(wire), whole_of(other))
        case ["part", wire, other, *hands]:
            return ("part", whole_of(wire), hands_of_row(hands), whole_of(other))
        case ["tick"]:
            return ("tick",)
        case ["over", number]:
            return ("hand over", whole_of(number))
        case ["keep", number]:
            return ("keep", whole_of(number))
        case ["lose", number]:
            return ("lose", whole_of(number))
        case _:
            return None


def listed(texts):
    return ",".join(texts) if texts else "none"


def pairs_of(rows, first, second):
    """Two parts of each row, by their places, with a colon between."""
    return listed([f"{row[first]}:{row[second]}" for row in rows])


def way_text(rows):
    return listed([":".join([str(part) for part in row[:5]]) for row in rows])


def who_text(entry):
    if entry is None:
        return "nobody"
    return " ".join([str(part) for part in entry])


def answer_to(wires, words):
    """The answer to a row that asks."""
    match words:
        case ["ask", hand, name]:
            return wires.ask(whole_of(hand), name)
        case ["who", hand, name]:
            return who_text(wires.known_of(whole_of(hand), name))
        case ["asked", hand, name]:
            return wires.asking_of(whole_of(hand), name)
        case ["hold", name]:
            return pairs_of(wires.who_holds(name), 0, 1)
        case ["claims", hand]:
            return pairs_of(wires.claims_of(whole_of(hand)), 0, 3)
        case ["way"]:
            return way_text(wires.way())
        case ["doubles"]:
            return pairs_of(wires.doubles(), 0, 1)
        case ["now"]:
            return str(wires.now())
        case _:
            raise NoSaying("this is none of the rows")


class Desk:
    """Wires behind a desk; no two desks have any in common."""

    def __init__(self, bounds, rule):
        self.wires = Wires(bounds, rule)

    def say(self, row):
        """Do what the row says, and tell the answer to it."""
        words = words_of(row)
        call = call_of(words)
        if call is None:
            return answer_to(self.wires, words)
        do_call(self.wires, call)
        return "ok"
