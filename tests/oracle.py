"""Which papers are so [24], found by the slow model: each thing is held against written shapes first."""

from tests.model import Model, Refused

SHAPES = {
    "come": "hw",
    "go": "h",
    "claim": "hnmt",
    "drop": "hn",
    "ask": "hn",
    "ask all": "h",
    "join": "ww",
    "part": "wHw",
    "tick": "",
    "hand over": "i",
    "keep": "i",
    "lose": "i",
}
SPANS = {"h": (0, 7), "w": (0, 3), "m": (0, 999), "t": (1, 9), "i": (-(10**60), 10**60)}
RULE_SPANS = ((0, 9), (1, 5), (0, 99), (0, 9), (1, 400), (1, 400))
METHODS = {"ask all": "ask_all", "join": "meet", "hand over": "hand_over"}


def in_span(thing, span):
    return type(thing) is int and span[0] <= thing <= span[1]


def is_written_name(thing):
    if type(thing) is not str or not thing:
        return False
    stem = thing[:-1] if thing[-1] in "23456789" else thing
    return 0 < len(stem) < 9 and set(stem) <= set("abcdefghijklmnopqrstuvwxyz")


def has_shape(thing, sign):
    if sign == "n":
        return is_written_name(thing)
    if sign == "H":
        fit = type(thing) is tuple and all(in_span(hand, (0, 7)) for hand in thing)
        return fit and list(thing) == sorted(set(thing))
    return in_span(thing, SPANS[sign])


def is_written_call(thing):
    if type(thing) is not tuple or not thing or type(thing[0]) is not str or thing[0] not in SHAPES:
        return False
    signs = SHAPES[thing[0]]
    return len(thing) == 1 + len(signs) and all(map(has_shape, thing[1:], signs))


def tell(model, call):
    word, given = call[0], call[1:]
    if word == "keep":
        model.hand_over(*given, keep=True)
    else:
        getattr(model, METHODS.get(word, word))(*given)


def model_of(bounds, rule):
    """A model, or None where these are no bounds and no rule that fits them."""
    spans = ((0, 3), (1, 5))
    for thing, wanted in ((bounds, spans), (rule, RULE_SPANS)):
        if type(thing) is not tuple or len(thing) != len(wanted) or not all(map(in_span, thing, wanted)):
            return None
    model = Model(*bounds, *rule)
    if rule[4] < model.claiming + 2 or rule[5] < 2 * model.asking:
        return None
    return model


def holders(model):
    """Who holds what: {(hand, name): mark}."""
    rows = {(hand, row[0]): row for hand in model.places for row in model.claims_of(hand)}
    return {key: row[1] for key, row in rows.items() if row[3] == "holding"}


def walk(bounds, rule, script):
    """The model behind the script and (tick, holders, whether two hold) behind each call, or None."""
    model = model_of(bounds, rule)
    if model is None or type(script) is not list or len(script) > 2000:
        return None
    seen = []
    for call in script:
        if not is_written_call(call):
            return None
        try:
            tell(model, call)
        except Refused:
            return None
        seen.append((model.now(), holders(model), model.doubles() != []))
    return model, seen


def is_so(paper):
    lengths = {"two": 6, "one": 4, "known": 9}
    if type(paper) is not tuple or not paper or type(paper[0]) is not str:
        return False
    if lengths.get(paper[0]) != len(paper):
        return False
    history = walk(*paper[1:4])
    if history is None:
        return False
    model, seen = history
    if paper[0] == "one":
        return not any(two for _, _, two in seen)
    if paper[0] == "two":
        wire, name = paper[4:]
        joined = "join" in [call[0] for call in paper[3]]
        fit = in_span(wire, (0, 3)) and is_written_name(name) and not joined
        return fit and len([hand for place, hand in model.who_holds(name) if place == wire]) >= 2
    hand, name, age, other, mark = paper[4:]
    fit = in_span(hand, (0, 7)) and in_span(other, (0, 7)) and is_written_name(name) and hand in model.places
    if not fit or hand == other or not in_span(age, (0, 999)) or not in_span(mark, (0, 999)):
        return False
    lately = [rows for tick, rows, _ in seen if tick >= model.now() - age]
    return model.known_of(hand, name) == (other, mark, age) and mark in [rows.get((other, name)) for rows in lately]
