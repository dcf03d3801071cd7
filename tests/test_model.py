"""The program beside a plain model of the document, over many days of calls made at random.

The model tells everything anew from the document's words, by recursion, and keeps each day as plain
dicts that are copied for every call. Whether passengers can be seated at once it doesn't find by
seating them: they can if no group of flights has more passengers who wish nothing else than room.
"""

import copy
import itertools
import random
import unittest

from tests.helper import PLACES, ask

NAMES = {place: name for name, place in PLACES.items()}


class Refused(Exception):
    pass


class Model:
    def __init__(self):
        self.now = 0
        self.all = {}
        self.people = {}
        self.steps = []

    def ordered(self):
        alive = [number for number in self.all if not self.all[number]["cancelled"]]
        return sorted(alive, key=lambda number: (self.all[number]["dep"], number))

    def position(self, number):
        return (self.all[number]["dep"], number)

    def before(self, number):
        found = None
        for other in self.ordered():
            if self.all[other]["tail"] == self.all[number]["tail"] and self.position(other) < self.position(number):
                found = other
        return found

    def behind(self, number):
        tail = self.all[number]["tail"]
        return [other for other in self.ordered()
                if self.all[other]["tail"] == tail and self.position(other) > self.position(number)]

    def base(self, number):
        moments = [self.all[number]["dep"]]
        if self.before(number) is not None:
            moments.append(self.arrives(self.before(number)) + self.all[self.before(number)]["turn"])
        return max(moments)

    def waited_for(self, number):
        found = []
        for fed, need, most in self.all[number]["feeds"]:
            if not self.all[fed]["cancelled"] and self.arrives(fed) + need <= self.base(number) + most:
                found.append((fed, self.arrives(fed) + need))
        return found

    def held(self, number):
        return max([self.base(number)] + [moment for fed, moment in self.waited_for(number)])

    def leaves(self, number):
        if self.all[number]["left"] is not None:
            return self.all[number]["left"]
        moment = self.held(number) + self.all[number]["wait"]
        return moment if moment > self.now else self.now + 1

    def arrives(self, number):
        entry = self.all[number]
        if (number, self.now) not in self.known:
            self.known[(number, self.now)] = self.leaves(number) + entry["arr"] - entry["dep"] + entry["air"]
        return self.known[(number, self.now)]

    def cause(self, number):
        if self.all[number]["left"] is not None:
            return None
        if self.held(number) > self.base(number):
            return [fed for fed, moment in self.waited_for(number) if moment == self.held(number)][0]
        if self.base(number) > self.all[number]["dep"]:
            return self.before(number)
        return None

    def lateness(self):
        return sum(max(0, self.arrives(number) - self.all[number]["arr"]) for number in self.ordered())

    def is_open(self, number):
        return not self.all[number]["cancelled"] and self.all[number]["left"] is None

    def arrived(self, number):
        return self.all[number]["left"] is not None and self.arrives(number) <= self.now

    def need(self, holds, refusal):
        if not holds:
            raise Refused(refusal)

    def call(self, place, numbers):
        """The answer, on a copy that's kept only if nothing is refused."""
        tried = copy.deepcopy(self)
        tried.known = {}
        try:
            answer = [0] + getattr(tried, "call_" + NAMES[place])(*numbers)
        except Refused as refused:
            return [refused.args[0]]
        self.now = tried.now
        self.all = tried.all
        self.people = tried.people
        self.steps = tried.steps
        return answer

    def call_flight(self, f, tail, src, dst, dep, arr, turn, cap, others):
        self.need(f not in self.all, -5)
        self.need(len(self.all) < 24, -6)
        self.need(src != dst and arr > dep and others <= cap and dep > self.now, -8)
        flown = [number for number in self.ordered() if self.all[number]["tail"] == tail]
        if flown:
            final = self.all[flown[-1]]
            self.need(final["dst"] == src and final["arr"] + final["turn"] <= dep, -8)
        self.all[f] = {"tail": tail, "src": src, "dst": dst, "dep": dep, "arr": arr, "turn": turn, "wait": 0,
                       "seats": cap - others, "air": 0, "feeds": [], "cancelled": False, "left": None}
        return []

    def told_leaves(self, f):
        self.known = {}
        return [self.leaves(f)]

    def call_late(self, f, w):
        self.need(f in self.all, -3)
        self.need(self.is_open(f), -7)
        self.all[f]["wait"] = w
        return self.told_leaves(f)

    def call_air(self, f, e):
        self.need(f in self.all, -3)
        entry = self.all[f]
        self.need(not entry["cancelled"] and not self.arrived(f), -7)
        self.need(entry["arr"] - entry["dep"] + e >= 1, -8)
        if entry["left"] is not None:
            self.need(entry["left"] + entry["arr"] - entry["dep"] + e > self.now, -8)
        entry["air"] = e
        self.known = {}
        return [self.arrives(f)]

    def call_feed(self, f, g, need, most):
        self.need(f in self.all and g in self.all, -3)
        self.need(self.is_open(f) and not self.all[g]["cancelled"], -7)
        self.need(self.all[g]["dst"] == self.all[f]["src"], -8)
        self.need(self.all[g]["arr"] + need <= self.all[f]["dep"], -8)
        self.need(g not in [feed[0] for feed in self.all[f]["feeds"]], -5)
        self.need(len(self.all[f]["feeds"]) < 8, -6)
        self.all[f]["feeds"].append((g, need, most))
        return self.told_leaves(f)

    def call_unfeed(self, f, g):
        self.need(f in self.all, -3)
        self.need(self.is_open(f), -7)
        kept = [feed for feed in self.all[f]["feeds"] if feed[0] != g]
        self.need(len(kept) < len(self.all[f]["feeds"]), -8)
        self.all[f]["feeds"] = kept
        return self.told_leaves(f)

    def call_times(self, f):
        self.need(f in self.all, -3)
        self.need(not self.all[f]["cancelled"], -7)
        state = 2 if self.arrived(f) else 1 if self.all[f]["left"] is not None else 0
        return [self.leaves(f), self.arrives(f), state]

    def call_why(self, f):
        self.need(f in self.all, -3)
        self.need(not self.all[f]["cancelled"], -7)
        return [f] if self.cause(f) is None else [f] + self.call_why(self.cause(f))

    def call_table(self):
        return [told for number in self.ordered() for told in (number, self.leaves(number), self.arrives(number))]

    def call_cancel(self, f):
        self.need(f in self.all, -3)
        self.need(self.is_open(f), -7)
        behind = self.behind(f)
        ends = [k for k, number in enumerate(behind) if self.all[number]["dst"] == self.all[f]["src"]]
        gone = [f] + (behind[:ends[0] + 1] if ends else behind)
        for number in gone:
            self.all[number]["cancelled"] = True
        for person in self.people.values():
            if person["on"] in gone:
                person["on"] = None
        return gone

    def call_swap(self, f, g):
        self.need(f in self.all and g in self.all, -3)
        self.need(self.is_open(f) and self.is_open(g), -7)
        self.need(self.all[f]["tail"] != self.all[g]["tail"] and self.all[f]["src"] == self.all[g]["src"], -8)
        for one, other in ((f, g), (g, f)):
            if self.before(one) is not None:
                self.need(self.all[self.before(one)]["arr"] <= self.all[other]["dep"], -8)
        moved = ([f] + self.behind(f), self.all[g]["tail"]), ([g] + self.behind(g), self.all[f]["tail"])
        for numbers, tail in moved:
            for number in numbers:
                self.all[number]["tail"] = tail
        self.known = {}
        return [self.lateness()]

    def call_best(self):
        found = []
        for f in self.all:
            for g in self.all:
                if f < g:
                    tried = copy.deepcopy(self)
                    answer = tried.call(9, (f, g))
                    if answer[0] == 0:
                        found.append((answer[1], f, g))
        if not found or min(found)[0] >= self.lateness():
            return []
        return [min(found)[1], min(found)[2], min(found)[0]]

    def call_clock(self, n):
        self.need(n > self.now, -8)
        gone = sorted((self.leaves(number), number) for number in self.all
                      if self.is_open(number) and self.leaves(number) <= n)
        for moment, number in gone:
            self.all[number]["left"] = moment
        self.now = n
        return [number for moment, number in gone]

    def by_rank(self, numbers):
        return sorted(numbers, key=lambda x: (self.people[x]["rank"], x))

    def room(self, f):
        return self.all[f]["seats"] - len([x for x in self.people if self.people[x]["on"] == f])

    def flown(self, x):
        return self.people[x]["on"] is not None and self.all[self.people[x]["on"]]["left"] is not None

    def wishes(self, x):
        person = self.people[x]
        found = [f for f in self.all if self.is_open(f) and self.all[f]["src"] == person["src"]
                 and self.all[f]["dst"] == person["dst"] and f not in person["unwanted"]]
        found = [f for f in found if self.leaves(f) >= person["ready"] and self.arrives(f) <= person["latest"]]
        return sorted(found, key=lambda f: (self.arrives(f), f))

    def can_be_seated(self, numbers, given):
        """Whether all these can be, of whom some are given a flight for good."""
        routes = {(self.people[x]["src"], self.people[x]["dst"]) for x in numbers}
        return all(self.route_can_be_seated([x for x in numbers if (self.people[x]["src"], self.people[x]["dst"])
                                             == route], given) for route in routes)

    def route_can_be_seated(self, numbers, given):
        wishes = [{given[x]} if x in given else set(self.wishes(x)) for x in numbers]
        flights = sorted(set().union(*wishes))
        for count in range(len(flights) + 1):
            for group in itertools.combinations(flights, count):
                if len([one for one in wishes if one <= set(group)]) > sum(self.room(f) for f in group):
                    return False
        return True

    def best_seating(self, numbers):
        taken = []
        for x in self.by_rank(numbers):
            if self.can_be_seated(taken + [x], {}):
                taken.append(x)
        given = {}
        for x in taken:
            given[x] = [f for f in self.wishes(x) if self.can_be_seated(taken, {**given, x: f})][0]
        return given

    def call_book(self, x, rank, f, ready, latest):
        self.need(f in self.all, -3)
        self.need(self.is_open(f), -7)
        self.need(x not in self.people, -5)
        self.need(len(self.people) < 60, -6)
        self.need(self.room(f) > 0, -9)
        self.people[x] = {"rank": rank, "src": self.all[f]["src"], "dst": self.all[f]["dst"], "due": self.all[f]["arr"],
                          "ready": ready, "latest": latest, "unwanted": [], "on": f}
        return [self.room(f)]

    def call_drop(self, x):
        self.need(x in self.people, -4)
        self.need(not self.flown(x), -7)
        del self.people[x]
        return []

    def call_miss(self, x):
        self.need(x in self.people, -4)
        self.need(not self.flown(x) and self.people[x]["on"] is not None, -7)
        self.people[x]["on"] = None
        return []

    def call_refuse(self, x, f, flag):
        self.need(x in self.people, -4)
        self.need(f in self.all, -3)
        self.need(not self.flown(x), -7)
        others = [g for g in self.people[x]["unwanted"] if g != f]
        self.need(flag == 0 or len(others) < 8, -6)
        self.people[x]["unwanted"] = others + [f] * flag
        return []

    def call_where(self, x):
        self.need(x in self.people, -4)
        if self.people[x]["on"] is None:
            return [0, 0]
        return [2 if self.flown(x) else 1, self.people[x]["on"]]

    def call_wishes(self, x):
        self.need(x in self.people, -4)
        self.need(not self.flown(x), -7)
        return self.wishes(x)

    def call_rebook(self):
        stranded = self.by_rank([x for x in self.people if self.people[x]["on"] is None])
        given = self.best_seating(stranded)
        for x in given:
            self.people[x]["on"] = given[x]
        return [told for x in stranded for told in (x, given.get(x, 0))]

    def call_could(self, row):
        for x in row:
            self.need(x in self.people, -4)
            self.need(self.people[x]["on"] is None, -7)
        self.need(len(row) == len(set(row)), -8)
        return [int(self.can_be_seated(row, {}))]

    def call_steps(self, row):
        minutes, amounts = row[0::2], row[1::2]
        self.need(minutes == sorted(set(minutes)) and amounts == sorted(amounts), -8)
        self.steps = list(zip(minutes, amounts))
        return []

    def call_claim(self, x):
        self.need(x in self.people, -4)
        self.need(self.flown(x) and self.arrived(self.people[x]["on"]), -7)
        minutes = max(0, self.arrives(self.people[x]["on"]) - self.people[x]["due"])
        return [minutes, max([amount for least, amount in self.steps if least <= minutes] + [0])]

    def call_load(self, f):
        self.need(f in self.all, -3)
        return [self.room(f)] + self.by_rank([x for x in self.people if self.people[x]["on"] == f])


def made_flight(chance, model, numbers):
    """Mostly one that its aircraft can fly."""
    tail = chance.randrange(4)
    flown = [number for number in model.ordered() if model.all[number]["tail"] == tail]
    src, dep = chance.randrange(3), model.now + chance.randrange(1, 60)
    if flown and chance.randrange(12):
        final = model.all[flown[-1]]
        src, dep = final["dst"], max(dep, final["arr"] + final["turn"] + chance.randrange(-1, 20))
    others = chance.randrange(3)
    return (0, chance.choice(numbers), tail, src, chance.randrange(3), dep, dep + chance.randrange(60),
            chance.randrange(20), others + chance.randrange(-1, 9) if others else 5, others)


def made_feed(chance, model, numbers):
    """Mostly one between airports that fit."""
    pairs = [(f, g) for f in model.all for g in model.all if model.all[g]["dst"] == model.all[f]["src"]
             and model.all[g]["arr"] <= model.all[f]["dep"]]
    f, g = chance.choice(pairs) if pairs and chance.randrange(8) else (chance.choice(numbers), chance.choice(numbers))
    return (3, f, g, chance.randrange(12), chance.randrange(60))


def made_swap(chance, model, numbers):
    pairs = [(f, g) for f in model.all for g in model.all if model.all[f]["src"] == model.all[g]["src"]]
    f, g = chance.choice(pairs) if pairs and chance.randrange(8) else (chance.choice(numbers), chance.choice(numbers))
    return (9, f, g)


def made_call(chance, model, numbers, weights):
    place = chance.choices(range(12), weights)[0]
    f, g = chance.choice(numbers), chance.choice(numbers)
    if place == 0:
        return made_flight(chance, model, numbers)
    if place == 3:
        return made_feed(chance, model, numbers)
    if place == 9:
        return made_swap(chance, model, numbers)
    if place == 4 and f in model.all and model.all[f]["feeds"] and chance.randrange(4):
        g = chance.choice(model.all[f]["feeds"])[0]
    behind = {1: (f, chance.randrange(50)), 2: (f, chance.randrange(-40, 60)), 4: (f, g), 7: (), 10: (),
              11: (model.now + chance.randrange(-1, 25),)}
    return (place,) + behind.get(place, (f,))


def made_book(chance, model, numbers, persons):
    """Mostly on a flight that's there, by one who has time for it and for some others."""
    f = chance.choice(list(model.all) or numbers) if chance.randrange(12) else chance.choice(numbers)
    dep = model.all[f]["dep"] if f in model.all else 0
    ready = max(0, dep + chance.randrange(-90, 20))
    return (12, chance.choice(persons), chance.randrange(4), f, ready, ready + chance.randrange(20, 400))


def made_row(chance, model, persons):
    stranded = [x for x in model.people if model.people[x]["on"] is None]
    row = chance.sample(stranded, chance.randrange(len(stranded) + 1))
    if not row or not chance.randrange(5):
        row.insert(chance.randrange(len(row) + 1), chance.choice(persons))
    if not chance.randrange(9):
        row.append(chance.choice(row))
    return row[:60]


def made_steps(chance):
    minutes = sorted(chance.sample(range(90), chance.randrange(9)))
    amounts = sorted(chance.randrange(50) for step in minutes)
    if not chance.randrange(4):
        chance.shuffle(chance.choice((minutes, amounts)))
    return [number for pair in zip(minutes, amounts) for number in pair]


def made_passenger_call(chance, model, numbers, persons):
    place = chance.choices(range(12, 23), (18, 1, 5, 5, 3, 5, 4, 6, 2, 4, 4))[0]
    x = chance.choice(list(model.people) or persons) if chance.randrange(9) else chance.choice(persons)
    f = chance.choice(list(model.all) or numbers) if chance.randrange(9) else chance.choice(numbers)
    if place == 12:
        return made_book(chance, model, numbers, persons)
    behind = {15: (x, f, int(chance.random() < 0.8)), 18: (), 19: (made_row(chance, model, persons),),
              20: (made_steps(chance),), 22: (f,)}
    return (place,) + behind.get(place, (x,))


class Days(unittest.TestCase):
    def play(self, seen, seed, made, length):
        """A day of calls, each made in the light of the model, and then asked at once."""
        model = Model()
        calls = []
        told = []
        for step in range(length):
            call = made(model)
            calls.append(call)
            told.append([-2] if call[0] == 11 and call[1] < 0 else model.call(call[0], call[1:]))
        for call, expected, answer in zip(calls, told, ask(*calls)):
            self.assertEqual(answer, expected, (seed, call))
            kind = (NAMES[call[0]], min(answer[0], 0), len(answer) > 2)
            seen[kind] = seen.get(kind, 0) + 1

    def check_that_much_was_seen(self, seen, wanted, longer):
        """Days where nearly all is refused would show nothing."""
        for name, first in wanted:
            count = seen.get((name, first, False), 0) + seen.get((name, first, True), 0)
            self.assertGreater(count, 10, (name, first))
        for name in longer:
            self.assertGreater(seen.get((name, 0, True), 0), 10, name)

    def test_random_days_of_flights(self):
        seen = {}
        for seed in range(120):
            chance = random.Random(seed)
            # All of the numbers may be taken: also 24 flights and more are asked for.
            numbers = chance.sample(range(1, 10000), chance.choice((10, 18, 30)))
            weights = (9, 5, 4, 8, 1, 3, 4, 2, 1, 4, 2, 3)
            self.play(seen, seed, lambda model: made_call(chance, model, numbers, weights), 110)
        self.check_that_much_was_seen(seen, [
            ("flight", 0), ("flight", -5), ("flight", -8), ("late", 0), ("late", -7), ("air", 0), ("air", -7),
            ("air", -8), ("feed", 0), ("feed", -5), ("feed", -7), ("feed", -8), ("unfeed", 0), ("cancel", 0),
            ("swap", 0), ("swap", -7), ("swap", -8), ("clock", 0), ("clock", -8)],
            ("why", "best", "table", "cancel", "clock"))

    def test_random_days_with_passengers(self):
        seen = {}
        for seed in range(120):
            chance = random.Random(seed)
            numbers = chance.sample(range(1, 10000), chance.choice((8, 14, 20)))
            persons = chance.sample(range(1, 1000000), chance.choice((10, 20, 40)))
            weights = (22, 4, 2, 2, 0, 0, 0, 0, 2, 1, 0, 3)

            def made(model):
                if len(model.all) > 3 and chance.randrange(3):
                    return made_passenger_call(chance, model, numbers, persons)
                return made_call(chance, model, numbers, weights)

            self.play(seen, seed, made, 140)
        self.check_that_much_was_seen(seen, [
            ("book", 0), ("book", -3), ("book", -5), ("book", -7), ("book", -9), ("drop", 0), ("drop", -4),
            ("drop", -7), ("miss", 0), ("miss", -4), ("miss", -7), ("refuse", 0), ("refuse", -3), ("refuse", -4),
            ("refuse", -7), ("where", 0), ("where", -4), ("wishes", 0), ("wishes", -4), ("wishes", -7), ("could", 0),
            ("could", -4), ("could", -7), ("could", -8), ("steps", 0), ("steps", -8), ("claim", 0), ("claim", -4),
            ("claim", -7), ("load", 0), ("load", -3)], ("where", "wishes", "rebook", "claim", "load"))


if __name__ == "__main__":
    unittest.main()
