"""Longer histories by the least rule, in which as much goes wrong as may [3]."""

import unittest

from tests.helper import Chance, hear_all, lonely_ticks, numbers, REFUSALS
from wirenames.errors import Owed
from wirenames.rules import Bounds, Rule, asking_time, claiming_time, least_rule, mending_time
from wirenames.wires import Wires

NAMES = ("a", "b", "b2")
ALL_BOUNDS = [(lost, late) for lost in range(4) for late in range(1, 6)]

# How letters fare: all lost that may be and the others as late as may be; by chance; by chance, mostly kept.
WORST, MIXED, DOUBLED = 0, 1, 2


class History:
    """Wires on which chance claims, asks, comes and goes, and what was so behind each call."""

    def __init__(self, test, seed, joins):
        self.test = test
        self.seed = seed
        self.joins = joins
        self.chance = Chance(seed)
        self.bounds = Bounds(lost=self.chance.below(4), late=1 + self.chance.below(5))
        self.rule = least_rule(self.bounds, gap=1 + self.chance.below(4))
        self.style = seed % 3
        self.wires = Wires(self.bounds, self.rule)
        self.joined = None
        self.calls = 0
        self.held_from = {}
        self.held_last = {}
        self.together = {}
        self.asked = {}
        self.asked_all = []

    def do(self, method, *given, **by_name):
        """Make a call, and look at everything behind it; whether it was done."""
        ends = len(self.wires.notes())
        try:
            answer = getattr(self.wires, method)(*given, **by_name)
        except REFUSALS:
            return False
        self.calls += 1
        self.look()
        if method == "ask" and answer == "asked" and self.asked.get(given) is None:
            self.asked[given] = self.calls
        if method == "ask_all":
            self.asked_all.append((given[0], self.wires.now(), self.calls))
        if method == "go":
            self.forget(given[0])
        self.look_at_ends(self.wires.notes()[ends:])
        return True

    def forget(self, hand):
        self.asked = {key: self.asked[key] for key in self.asked if key[0] != hand}
        self.asked_all = [row for row in self.asked_all if row[0] != hand]

    def look(self):
        wires = self.wires
        now = wires.now()
        places = {hand: wire for wire in range(4) for hand in wires.hands_on(wire)}
        holders = {}
        for hand in places:
            for name, mark, _, stand, _ in wires.claims_of(hand):
                if stand == "holding":
                    holders[hand, name] = self.held_from.get((hand, name), self.calls)
                    self.held_last[hand, name, mark] = now
        self.held_from = holders
        pairs = [(one, two) for one in places for two in places if places[one] == places[two]]
        self.together = {pair: self.together.get(pair, self.calls) for pair in pairs}
        if self.joined is None or now > self.joined + mending_time(self.bounds, self.rule):
            self.test.assertEqual(wires.doubles(), [], self.seed)
        for hand in places:
            self.look_at_known(hand, now)

    def look_at_known(self, hand, now):
        for name, other, mark, age in self.wires.all_known(hand):
            last = self.held_last.get((other, name, mark))
            self.test.assertIsNotNone(last, self.seed)
            self.test.assertGreaterEqual(last, now - age, self.seed)
        for name in NAMES:
            # One that ended by its time is looked at by its note.
            if self.wires.asking_of(hand, name) == "not asked":
                self.asked.pop((hand, name), None)

    def there_since(self, hand, call):
        """The pairs (name, hand) held by others on the hand's wire from that call on till now."""
        return [
            (name, other)
            for (other, name), since in self.held_from.items()
            if other != hand and since < call and self.together.get((hand, other), call) < call
        ]

    def look_at_ends(self, notes):
        for note in notes:
            if note[1] == "ends":
                begun = self.asked.pop((note[2], note[3]))
                if self.joined is None:
                    held = [name for name, _ in self.there_since(note[2], begun)]
                    self.test.assertNotIn(note[3], held, self.seed)

    def look_at_asked_all(self):
        """Behind all that must come: who asked for all names so long ago knows them."""
        span = asking_time(self.bounds, self.rule)
        due = [row for row in self.asked_all if row[1] + span == self.wires.now()]
        self.asked_all = [row for row in self.asked_all if row[1] + span > self.wires.now()]
        for hand, _, call in due:
            if self.joined is None:
                known = [(name, other) for name, other, _, _ in self.wires.all_known(hand)]
                for pair in self.there_since(hand, call):
                    self.test.assertIn(pair, known, self.seed)

    def act(self):
        chance = self.chance
        hand, name = chance.below(8), chance.of(NAMES)
        kind = chance.below(14)
        if kind < 3:
            self.do("come", hand, chance.below(4 if self.joins else 2))
        elif kind < 8:
            self.do("claim", hand, name, chance.below(3), tries=1 + chance.below(3))
        elif kind == 8:
            self.do("drop", hand, name)
        elif kind < 11:
            self.do("ask", hand, name)
        elif kind == 11:
            self.do("ask_all", hand)
        elif kind == 12 and chance.below(5) == 0:
            self.do("go", hand)
        elif kind == 13 and chance.below(3) == 0:
            wire = chance.below(4)
            hands = [other for other in self.wires.hands_on(wire) if chance.below(2)]
            self.do("part", wire, hands, chance.below(4))

    def carry(self):
        """What becomes of the copies at this tick."""
        for row in self.wires.way():
            number, sent, came = row[0], row[7], row[8]
            last = self.wires.now() - sent >= self.bounds.late
            lot = self.chance.below(10)
            if not came and (self.style == WORST or lot < 3) and self.do("lose", number):
                continue
            if last and not came:
                self.do("hand_over", number, keep=self.style == DOUBLED)
            elif self.style == MIXED and lot > 7:
                self.do("hand_over", number, keep=lot == 9)
            elif self.style == DOUBLED:
                self.do("hand_over", number, keep=True)

    def run(self, ticks):
        for tick in range(ticks):
            for _ in range(self.chance.below(4)):
                self.act()
            if self.joins and tick < ticks // 3 and self.chance.below(9) == 0:
                if self.do("meet", self.chance.below(4), self.chance.below(4)):
                    self.joined = self.wires.now()
            self.carry()
            self.look_at_asked_all()
            self.test.assertTrue(self.do("tick"))


class Histories(unittest.TestCase):
    def run_all(self, seeds, joins):
        kinds = {"holds": 0, "gives way": 0, "ends": 0}
        mended = 0
        for seed in seeds:
            history = History(self, seed, joins)
            history.run(120)
            for note in history.wires.notes():
                kinds[note[1]] += 1
            if history.joined is not None:
                span = mending_time(history.bounds, history.rule)
                mended += history.wires.now() > history.joined + span
        for many in kinds.values():
            self.assertGreater(many, 50)
        return mended

    def test_without_joining_no_two_hold_one_name_behind_any_call(self):
        self.run_all(range(48), False)

    def test_behind_joining_none_do_from_the_mending_time_on(self):
        self.assertGreater(self.run_all(range(100, 148), True), 15)


class TheWorst(unittest.TestCase):
    """A hand that comes to a holder's wire and claims its name, while all goes as badly as may be."""

    def holders(self, bounds, rule):
        wires = Wires(bounds, rule)
        wires.come(0, 0)
        wires.claim(0, "a", 0)
        # Behind its first letter `hold` the next one is as far off as can be.
        lonely_ticks(wires, claiming_time(rule) + 1)
        wires.come(1, 0)
        wires.claim(1, "a", 9)
        for _ in range(claiming_time(rule) + 1):
            self.worst(wires, bounds)
            wires.tick()
        return wires.who_holds("a")

    def worst(self, wires, bounds):
        for number in numbers(wires):
            try:
                wires.lose(number)
            except Owed:
                pass
        hear_all(wires, sent=wires.now() - bounds.late)

    def test_the_least_rule_stands_it_and_one_less_of_anything_does_not(self):
        for lost, late in ALL_BOUNDS:
            for gap in range(1, 6):
                bounds = Bounds(lost=lost, late=late)
                least = least_rule(bounds, gap=gap)
                plain = {field: getattr(least, field) for field in ("probes", "gap", "wait", "repeats", "life")}
                plain["period"] = 400
                self.assertEqual(self.holders(bounds, least), [(0, 0)], least)
                for field in ("probes", "wait", "repeats"):
                    if plain[field]:
                        weaker = Rule(**{**plain, field: plain[field] - 1})
                        self.assertEqual(self.holders(bounds, weaker), [(0, 0), (0, 1)], weaker)


class LongAgo(unittest.TestCase):
    def test_many_calls(self):
        bounds = Bounds(lost=1, late=2)
        wires = Wires(bounds, least_rule(bounds))
        for hand in range(8):
            wires.come(hand, hand % 4)
            wires.claim(hand, "a", hand, tries=9)
        for _ in range(2000):
            wires.tick()
            hear_all(wires)
        self.assertEqual(wires.now(), 2000)
        self.assertEqual(wires.doubles(), [])
        self.assertEqual([hand for _, hand in wires.who_holds("a")], [4, 5, 6, 7])
        self.assertEqual([hand for _, hand in wires.who_holds("a2")], [0, 1, 2, 3])


if __name__ == "__main__":
    unittest.main()
