"""The program beside a plain model of the document, over many days of calls made at random.

The model tells everything anew from the document's words, by recursion, and keeps each day as plain
dicts that are copied for every call.
"""

import copy
import random
import unittest

from tests.helper import PLACES, ask

NAMES = {place: name for name, place in PLACES.items()}


class Refused(Exception):
    pass


class Model:
    def __init__(self):
        self.now = 0
        self.all = {}

    def ordered(self):
        alive = [number for number in self.all if not self.all[number]["cancelled"]]
        return sorted(alive, key=lambda number: (self.all[number]["dep"], number))

    def position(self, number):
        return (self.all[number]["dep"], number)

    def before(self, number):
        found = None
        for other in self.ordered():
            if self.all[other]["tail"] == self.all[number]["tail"] and self.position(other) < self.position(number):
                found = other
        return found

    def behind(self, number):
        tail = self.all[number]["tail"]
        return [other for other in self.ordered()
                if self.all[other]["tail"] == tail and self.position(other) > self.position(number)]

    def base(self, number):
        moments = [self.all[number]["dep"]]
        if self.before(number) is not None:
            moments.append(self.arrives(self.before(number)) + self.all[self.before(number)]["turn"])
        return max(moments)

    def waited_for(self, number):
        found = []
        for fed, need, most in self.all[number]["feeds"]:
            if not self.all[fed]["cancelled"] and self.arrives(fed) + need <= self.base(number) + most:
                found.append((fed, self.arrives(fed) + need))
        return found

    def held(self, number):
        return max([self.base(number)] + [moment for fed, moment in self.waited_for(number)])

    def leaves(self, number):
        if self.all[number]["left"] is not None:
            return self.all[number]["left"]
        moment = self.held(number) + self.all[number]["wait"]
        return moment if moment > self.now else self.now + 1

    def arrives(self, number):
        entry = self.all[number]
        if (number, self.now) not in self.known:
            self.known[(number, self.now)] = self.leaves(number) + entry["arr"] - entry["dep"] + entry["air"]
        return self.known[(number, self.now)]

    def cause(self, number):
        if self.all[number]["left"] is not None:
            return None
        if self.held(number) > self.base(number):
            return [fed for fed, moment in self.waited_for(number) if moment == self.held(number)][0]
        if self.base(number) > self.all[number]["dep"]:
            return self.before(number)
        return None

    def lateness(self):
        return sum(max(0, self.arrives(number) - self.all[number]["arr"]) for number in self.ordered())

    def is_open(self, number):
        return not self.all[number]["cancelled"] and self.all[number]["left"] is None

    def arrived(self, number):
        return self.all[number]["left"] is not None and self.arrives(number) <= self.now

    def need(self, holds, refusal):
        if not holds:
            raise Refused(refusal)

    def call(self, place, numbers):
        """The answer, on a copy that's kept only if nothing is refused."""
        tried = copy.deepcopy(self)
        tried.known = {}
        try:
            answer = [0] + getattr(tried, "call_" + NAMES[place])(*numbers)
        except Refused as refused:
            return [refused.args[0]]
        self.now = tried.now
        self.all = tried.all
        return answer

    def call_flight(self, f, tail, src, dst, dep, arr, turn, cap, others):
        self.need(f not in self.all, -5)
        self.need(len(self.all) < 24, -6)
        self.need(src != dst and arr > dep and others <= cap and dep > self.now, -8)
        flown = [number for number in self.ordered() if self.all[number]["tail"] == tail]
        if flown:
            final = self.all[flown[-1]]
            self.need(final["dst"] == src and final["arr"] + final["turn"] <= dep, -8)
        self.all[f] = {"tail": tail, "src": src, "dst": dst, "dep": dep, "arr": arr, "turn": turn, "wait": 0,
                       "air": 0, "feeds": [], "cancelled": False, "left": None}
        return []

    def told_leaves(self, f):
        self.known = {}
        return [self.leaves(f)]

    def call_late(self, f, w):
        self.need(f in self.all, -3)
        self.need(self.is_open(f), -7)
        self.all[f]["wait"] = w
        return self.told_leaves(f)

    def call_air(self, f, e):
        self.need(f in self.all, -3)
        entry = self.all[f]
        self.need(not entry["cancelled"] and not self.arrived(f), -7)
        self.need(entry["arr"] - entry["dep"] + e >= 1, -8)
        if entry["left"] is not None:
            self.need(entry["left"] + entry["arr"] - entry["dep"] + e > self.now, -8)
        entry["air"] = e
        self.known = {}
        return [self.arrives(f)]

    def call_feed(self, f, g, need, most):
        self.need(f in self.all and g in self.all, -3)
        self.need(self.is_open(f) and not self.all[g]["cancelled"], -7)
        self.need(self.all[g]["dst"] == self.all[f]["src"], -8)
        self.need(self.all[g]["arr"] + need <= self.all[f]["dep"], -8)
        self.need(g not in [feed[0] for feed in self.all[f]["feeds"]], -5)
        self.need(len(self.all[f]["feeds"]) < 8, -6)
        self.all[f]["feeds"].append((g, need, most))
        return self.told_leaves(f)

    def call_unfeed(self, f, g):
        self.need(f in self.all, -3)
        self.need(self.is_open(f), -7)
        kept = [feed for feed in self.all[f]["feeds"] if feed[0] != g]
        self.need(len(kept) < len(self.all[f]["feeds"]), -8)
        self.all[f]["feeds"] = kept
        return self.told_leaves(f)

    def call_times(self, f):
        self.need(f in self.all, -3)
        self.need(not self.all[f]["cancelled"], -7)
        state = 2 if self.arrived(f) else 1 if self.all[f]["left"] is not None else 0
        return [self.leaves(f), self.arrives(f), state]

    def call_why(self, f):
        self.need(f in self.all, -3)
        self.need(not self.all[f]["cancelled"], -7)
        return [f] if self.cause(f) is None else [f] + self.call_why(self.cause(f))

    def call_table(self):
        return [told for number in self.ordered() for told in (number, self.leaves(number), self.arrives(number))]

    def call_cancel(self, f):
        self.need(f in self.all, -3)
        self.need(self.is_open(f), -7)
        behind = self.behind(f)
        ends = [k for k, number in enumerate(behind) if self.all[number]["dst"] == self.all[f]["src"]]
        gone = [f] + (behind[:ends[0] + 1] if ends else behind)
        for number in gone:
            self.all[number]["cancelled"] = True
        return gone

    def call_swap(self, f, g):
        self.need(f in self.all and g in self.all, -3)
        self.need(self.is_open(f) and self.is_open(g), -7)
        self.need(self.all[f]["tail"] != self.all[g]["tail"] and self.all[f]["src"] == self.all[g]["src"], -8)
        for one, other in ((f, g), (g, f)):
            if self.before(one) is not None:
                self.need(self.all[self.before(one)]["arr"] <= self.all[other]["dep"], -8)
        moved = ([f] + self.behind(f), self.all[g]["tail"]), ([g] + self.behind(g), self.all[f]["tail"])
        for numbers, tail in moved:
            for number in numbers:
                self.all[number]["tail"] = tail
        self.known = {}
        return [self.lateness()]

    def call_best(self):
        found = []
        for f in self.all:
            for g in self.all:
                if f < g:
                    tried = copy.deepcopy(self)
                    answer = tried.call(9, (f, g))
                    if answer[0] == 0:
                        found.append((answer[1], f, g))
        if not found or min(found)[0] >= self.lateness():
            return []
        return [min(found)[1], min(found)[2], min(found)[0]]

    def call_clock(self, n):
        self.need(n > self.now, -8)
        gone = sorted((self.leaves(number), number) for number in self.all
                      if self.is_open(number) and self.leaves(number) <= n)
        for moment, number in gone:
            self.all[number]["left"] = moment
        self.now = n
        return [number for moment, number in gone]


def made_flight(chance, model, numbers):
    """Mostly one that its aircraft can fly."""
    tail = chance.randrange(4)
    flown = [number for number in model.ordered() if model.all[number]["tail"] == tail]
    src, dep = chance.randrange(3), model.now + chance.randrange(1, 60)
    if flown and chance.randrange(12):
        final = model.all[flown[-1]]
        src, dep = final["dst"], max(dep, final["arr"] + final["turn"] + chance.randrange(-1, 20))
    others = chance.randrange(3)
    return (0, chance.choice(numbers), tail, src, chance.randrange(3), dep, dep + chance.randrange(60),
            chance.randrange(20), others + chance.randrange(-1, 9) if others else 5, others)


def made_feed(chance, model, numbers):
    """Mostly one between airports that fit."""
    pairs = [(f, g) for f in model.all for g in model.all if model.all[g]["dst"] == model.all[f]["src"]
             and model.all[g]["arr"] <= model.all[f]["dep"]]
    f, g = chance.choice(pairs) if pairs and chance.randrange(8) else (chance.choice(numbers), chance.choice(numbers))
    return (3, f, g, chance.randrange(12), chance.randrange(60))


def made_swap(chance, model, numbers):
    pairs = [(f, g) for f in model.all for g in model.all if model.all[f]["src"] == model.all[g]["src"]]
    f, g = chance.choice(pairs) if pairs and chance.randrange(8) else (chance.choice(numbers), chance.choice(numbers))
    return (9, f, g)


def made_call(chance, model, numbers):
    weights = (9, 5, 4, 8, 1, 3, 4, 2, 1, 4, 2, 3)
    place = chance.choices(range(12), weights)[0]
    f, g = chance.choice(numbers), chance.choice(numbers)
    if place == 0:
        return made_flight(chance, model, numbers)
    if place == 3:
        return made_feed(chance, model, numbers)
    if place == 9:
        return made_swap(chance, model, numbers)
    if place == 4 and f in model.all and model.all[f]["feeds"] and chance.randrange(4):
        g = chance.choice(model.all[f]["feeds"])[0]
    behind = {1: (f, chance.randrange(50)), 2: (f, chance.randrange(-40, 60)), 4: (f, g), 7: (), 10: (),
              11: (model.now + chance.randrange(-1, 25),)}
    return (place,) + behind.get(place, (f,))


class Days(unittest.TestCase):
    def test_random_days(self):
        seen = {}
        for seed in range(120):
            chance = random.Random(seed)
            # All of the numbers may be taken: also 24 flights and more are asked for.
            numbers = chance.sample(range(1, 10000), chance.choice((10, 18, 30)))
            model = Model()
            calls = []
            told = []
            for step in range(110):
                call = made_call(chance, model, numbers)
                calls.append(call)
                told.append(model.call(call[0], call[1:]) if min(call[1:] + (0,)) >= 0 or call[0] == 2 else [-2])
            for call, expected, answer in zip(calls, told, ask(*calls)):
                self.assertEqual(answer, expected, (seed, call))
                kind = (NAMES[call[0]], min(answer[0], 0), len(answer) > 2)
                seen[kind] = seen.get(kind, 0) + 1
        self.check_that_much_was_seen(seen)

    def check_that_much_was_seen(self, seen):
        """Days where nearly all is refused would show nothing."""
        wanted = [("flight", 0), ("flight", -5), ("flight", -8), ("late", 0), ("late", -7), ("air", 0), ("air", -7),
                  ("air", -8), ("feed", 0), ("feed", -5), ("feed", -7), ("feed", -8), ("unfeed", 0), ("cancel", 0),
                  ("swap", 0), ("swap", -7), ("swap", -8), ("clock", 0), ("clock", -8)]
        for name, first in wanted:
            count = seen.get((name, first, False), 0) + seen.get((name, first, True), 0)
            self.assertGreater(count, 10, (name, first))
        for name in ("why", "best", "table", "cancel", "clock"):
            self.assertGreater(seen.get((name, 0, True), 0), 10, name)


if __name__ == "__main__":
    unittest.main()
