"""The document once more, as slowly and plainly as can be: all that ever happened is kept, and every
answer is found by looking through it. Only calls of the right kinds are told to it."""


class Refused(Exception):
    """A refusal, by its name."""


def refuse(name, when):
    if when:
        raise Refused(name)


def follower(name):
    """The next name, or None."""
    if name[-1] == "9":
        return None
    if name[-1].isdigit():
        return name[:-1] + str(int(name[-1]) + 1)
    return name + "2"


class Model:
    def __init__(self, lost, late, probes, gap, wait, repeats, period, life):
        self.lost, self.late = lost, late
        self.probes, self.gap, self.repeats = probes, gap, repeats
        self.period, self.life = period, life
        self.claiming = (gap * (probes - 1) if probes else 0) + wait
        self.asking = 2 * late + 2 * repeats * gap
        self.time = 0
        self.places = {}
        self.comings = {hand: 0 for hand in range(8)}
        self.copies = []
        self.claims = {}
        self.heard = {}
        self.asks = {}
        self.endings = {}
        self.alls = {}
        self.log = []
        self.calls = []

    # Letters

    def send(self, hand, kind, name, mark=0, known=()):
        for other in range(8):
            if other != hand and other in self.places and self.places[other] == self.places[hand]:
                era = (hand, self.comings[hand], other, self.comings[other], name, kind == "ask")
                row = [len(self.copies), kind, hand, other, name, mark, known, self.time]
                self.copies.append({"row": row, "state": "on its way", "era": era})

    def travelling(self):
        return [copy for copy in self.copies if copy["state"] in ("on its way", "kept")]

    def find(self, number):
        found = [copy for copy in self.travelling() if copy["row"][0] == number]
        refuse("NoLetter", not found)
        return found[0]

    def hand_over(self, number, keep=False):
        copy = self.find(number)
        kind, sender, hand, name, mark, known, sent = copy["row"][1:]
        refuse("Early", sent == self.time)
        copy["state"] = "kept" if keep else "came"
        self.heard[hand].append((self.time, kind, sender, name, mark))
        if kind == "hold":
            self.asks.pop((hand, name), None)
            self.endings.pop((hand, name), None)
        if kind == "ask":
            for own in sorted(mine for owner, mine in self.claims if owner == hand):
                asked = name == own or (name == "" and (own, hand) not in known)
                if asked and self.claims[hand, own]["stand"] == "holding":
                    self.answer(hand, own)
        elif (hand, name) in self.claims and kind != "gone":
            self.clash(hand, name, kind, sender, mark)
        self.calls.append(("keep" if keep else "hand over", number))

    def lose(self, number):
        copy = self.find(number)
        refuse("Came", copy["state"] == "kept")
        thread = [other for other in self.copies if other["era"] == copy["era"]]
        states = ["x" if other is copy or other["state"] == "lost" else "." for other in thread]
        refuse("Owed", "x" * (self.lost + 1) in "".join(states))
        copy["state"] = "lost"
        self.calls.append(("lose", number))

    # Claims

    def begin(self, hand, name, mark, tries):
        probes = [self.time + turn * self.gap for turn in range(self.probes)]
        claim = {"mark": mark, "tries": tries, "stand": "probing", "since": self.time}
        self.claims[hand, name] = {**claim, "probes": probes, "repeats": [], "holds": None, "letters": []}
        if probes:
            self.tell(hand, name)

    def tell(self, hand, name):
        claim = self.claims[hand, name]
        if self.time not in claim["letters"]:
            claim["letters"].append(self.time)
            self.send(hand, "hold" if claim["stand"] == "holding" else "probe", name, claim["mark"])

    def answer(self, hand, name):
        self.tell(hand, name)
        self.claims[hand, name]["repeats"] = [self.time + self.gap * turn for turn in range(1, self.repeats + 1)]

    def clash(self, hand, name, kind, sender, mark):
        claim = self.claims[hand, name]
        greater = claim["mark"] > mark or (claim["mark"] == mark and hand > sender)
        stays = {
            ("probing", "hold"): False,
            ("holding", "hold"): greater,
            ("holding", "probe"): True,
            ("probing", "probe"): greater,
        }[claim["stand"], kind]
        if stays:
            self.answer(hand, name)
            return
        del self.claims[hand, name]
        self.log.append((self.time, "gives way", hand, name, claim["mark"], claim["stand"], sender, kind, mark))
        after = follower(name)
        if claim["tries"] > 1 and after is not None and (hand, after) not in self.claims:
            self.begin(hand, after, claim["mark"], claim["tries"] - 1)

    def claim(self, hand, name, mark, tries=1):
        refuse("NotOn", hand not in self.places)
        refuse("Claimed", (hand, name) in self.claims)
        refuse("TooMany", len([owner for owner, _ in self.claims if owner == hand]) == 3)
        self.begin(hand, name, mark, tries)
        self.calls.append(("claim", hand, name, mark, tries))

    def drop(self, hand, name):
        refuse("NotOn", hand not in self.places)
        refuse("NoClaim", (hand, name) not in self.claims)
        if self.claims.pop((hand, name))["stand"] == "holding":
            self.send(hand, "gone", name)
        self.calls.append(("drop", hand, name))

    # Asking

    def ask(self, hand, name):
        refuse("NotOn", hand not in self.places)
        self.calls.append(("ask", hand, name))
        if self.known_of(hand, name) is not None:
            return "known"
        if (hand, name) not in self.asks:
            self.endings.pop((hand, name), None)
            self.asks[hand, name] = [self.time + self.gap * turn for turn in range(self.repeats + 1)]
            self.send(hand, "ask", name)
        return "asked"

    def ask_all(self, hand):
        refuse("NotOn", hand not in self.places)
        self.alls[hand] = [self.time + self.gap * turn for turn in range(1, self.repeats + 1)]
        self.send_all(hand)
        self.calls.append(("ask all", hand))

    def send_all(self, hand):
        names = sorted({name for _, kind, _, name, _ in self.heard[hand] if kind == "hold"})
        entries = [(name, self.ear(hand, name)) for name in names]
        pairs = [(name, entry[0]) for name, entry in entries if entry and 2 * entry[2] <= self.life]
        self.send(hand, "ask", "", 0, tuple(pairs))

    # Wires

    def come(self, hand, wire):
        refuse("IsOn", hand in self.places)
        self.places[hand] = wire
        self.comings[hand] += 1
        self.heard[hand] = []
        self.calls.append(("come", hand, wire))

    def go(self, hand):
        refuse("NotOn", hand not in self.places)
        del self.places[hand]
        for table in (self.claims, self.asks, self.endings):
            for key in [key for key in table if key[0] == hand]:
                del table[key]
        self.alls.pop(hand, None)
        for copy in self.travelling():
            if copy["row"][3] == hand:
                copy["state"] = "away"
        self.calls.append(("go", hand))

    def meet(self, wire, other):
        refuse("SameWire", wire == other)
        for hand in self.hands_on(other):
            self.places[hand] = wire
        self.calls.append(("join", wire, other))

    def part(self, wire, hands, other):
        refuse("NoHands", not hands or any(self.places.get(hand) != wire for hand in hands))
        refuse("SameWire", wire == other)
        refuse("NotEmpty", self.hands_on(other) != [])
        for hand in hands:
            self.places[hand] = other
        self.calls.append(("part", wire, tuple(sorted(hands)), other))

    # Time

    def tick(self):
        old = [copy for copy in self.travelling() if self.time - copy["row"][7] >= self.late]
        refuse("Due", any(copy["state"] == "on its way" for copy in old))
        for copy in old:
            copy["state"] = "away"
        for hand, name in sorted(self.claims):
            claim = self.claims[hand, name]
            if claim["stand"] == "probing" and claim["since"] + self.claiming == self.time:
                claim["stand"], claim["holds"] = "holding", self.time + 1
                self.log.append((self.time, "holds", hand, name, claim["mark"]))
        for hand, name in sorted(self.asks):
            if self.asks[hand, name][0] + self.asking == self.time:
                del self.asks[hand, name]
                self.endings[hand, name] = True
                self.log.append((self.time, "ends", hand, name))
        self.time += 1
        for hand in sorted(self.places):
            self.send_due(hand)
        self.calls.append(("tick",))

    def send_due(self, hand):
        for name in sorted(own for owner, own in self.claims if owner == hand):
            claim = self.claims[hand, name]
            due = self.time in claim["probes"] or self.time in claim["repeats"]
            if claim["holds"] == self.time:
                due = True
                claim["holds"] += self.period
            if due:
                self.tell(hand, name)
        if self.time in self.alls.get(hand, []):
            self.send_all(hand)
        for name in sorted(own for owner, own in self.asks if owner == hand):
            if self.time in self.asks[hand, name]:
                self.send(hand, "ask", name)

    # What is told

    def ear(self, hand, name):
        entry = None
        for tick, kind, sender, about, mark in self.heard[hand]:
            if about == name and kind == "hold":
                entry = (sender, mark, self.time - tick)
            if about == name and kind == "gone" and entry is not None and entry[0] == sender:
                entry = None
        return entry if entry is not None and entry[2] <= self.life else None

    def known_of(self, hand, name):
        if self.claims.get((hand, name), {}).get("stand") == "holding":
            return (hand, self.claims[hand, name]["mark"], 0)
        entry = self.ear(hand, name)
        return None if entry is None else (entry[0], entry[1], entry[2] + self.late)

    def all_known(self, hand):
        names = {name for owner, name in self.claims if owner == hand}
        names |= {row[3] for row in self.heard[hand]}
        rows = [(name, self.known_of(hand, name)) for name in sorted(names)]
        return [(name, *entry) for name, entry in rows if entry is not None]

    def asking_of(self, hand, name):
        if (hand, name) in self.asks:
            return "open"
        return "none" if (hand, name) in self.endings else "not asked"

    def claims_of(self, hand):
        names = sorted(name for owner, name in self.claims if owner == hand)
        rows = [(name, self.claims[hand, name]) for name in names]
        return [(name, row["mark"], row["tries"], row["stand"], row["since"]) for name, row in rows]

    def who_holds(self, name):
        holders = [hand for hand, own in self.claims if own == name]
        holding = [hand for hand in holders if self.claims[hand, name]["stand"] == "holding"]
        return sorted((self.places[hand], hand) for hand in holding)

    def doubles(self):
        rows = []
        for wire in range(4):
            for name in sorted({name for _, name in self.claims}):
                hands = tuple(hand for place, hand in self.who_holds(name) if place == wire)
                if len(hands) > 1:
                    rows.append((wire, name, hands))
        return rows

    def hands_on(self, wire):
        return sorted(hand for hand in self.places if self.places[hand] == wire)

    def way(self):
        return [(*copy["row"], copy["state"] == "kept") for copy in self.travelling()]

    def now(self):
        return self.time

    def notes(self):
        return list(self.log)

    def script(self):
        return list(self.calls)

    def __len__(self):
        return len(self.travelling())
