"""Many stranded passengers and few seats, beside the model; and the largest days that may come."""

import copy
import random
import unittest

from tests.helper import ask
from tests.test_model import Model


def crowded_day(chance, routes, flights, rooms, persons):
    """Calls by which all the passengers are stranded: each was booked on a flight of the same route, now cancelled."""
    calls = []
    for route in range(routes):
        for number in range(route * 100 + 1, route * 100 + 1 + flights):
            dep = chance.randrange(100, 400)
            calls.append((0, number, number, route, route + 1, dep, dep + chance.randrange(10, 60), 0,
                          chance.choice(rooms), 0))
        calls.append((0, route * 100 + 90, route * 100 + 90, route, route + 1, 9000, 9001, 0, 60, 0))
    for x in range(1, persons + 1):
        route = chance.randrange(routes)
        ready = chance.randrange(50, 250)
        calls.append((12, x, chance.randrange(6), route * 100 + 90, ready, ready + chance.randrange(100, 400)))
        for number in chance.sample(range(1, flights + 1), chance.randrange(flights // 2 + 1)):
            calls.append((15, x, route * 100 + number, 1))
    return calls + [(8, route * 100 + 90) for route in range(routes)]


def first_free(model):
    """The answer, were each stranded passenger in turn given the first wish that has room yet."""
    tried = copy.deepcopy(model)
    tried.known = {}
    told = [0]
    for x in tried.by_rank([x for x in tried.people if tried.people[x]["on"] is None]):
        free = [f for f in tried.wishes(x) if tried.room(f) > 0]
        tried.people[x]["on"] = free[0] if free else None
        told.extend([x, free[0] if free else 0])
    return told


class Crowds(unittest.TestCase):
    def play(self, calls):
        """The model behind the calls; its answers have to be the program's."""
        model = Model()
        told = [model.call(call[0], call[1:]) for call in calls]
        for call, expected, answer in zip(calls, told, ask(*calls)):
            self.assertEqual(answer, expected, call)
        return model

    def test_at_random(self):
        moved = 0
        coulds = []
        for seed in range(200):
            chance = random.Random(seed)
            calls = crowded_day(chance, chance.choice((1, 1, 2)), chance.randrange(4, 8), (0, 1, 1, 1, 2),
                                chance.randrange(4, 11))
            model = self.play(calls)
            rows = [chance.sample(sorted(model.people), chance.randrange(1, len(model.people) + 1)) for row in range(4)]
            self.play(calls + [(19, row) for row in rows] + [(18,), (18,)])
            coulds.extend(model.call(19, (row,)) for row in rows)
            moved += first_free(model) != model.call(18, ())
        # Days where nobody has to give way to another would show nothing.
        self.assertGreater(moved, 50)
        self.assertGreater(coulds.count([0, 0]), 100)
        self.assertGreater(coulds.count([0, 1]), 100)

    def test_24_flights_60_passengers_400_calls(self):
        chance = random.Random(5)
        calls = crowded_day(chance, 3, 7, (1, 2, 3, 4), 60)
        self.assertEqual(len([call for call in calls if call[0] in (0, 12)]), 84)
        more = [(0, 9999, 999, 7, 8, 5000, 5001, 0, 9, 0), (12, 999999, 0, 1, 0, 0), (18,), (7,), (10,)]
        more += [(16, x) for x in range(1, 61)] + [(22, number) for number in range(1, 8)] + [(20, [5, 5, 30, 30])]
        more += [(14, x) for x in range(1, 61)] + [(18,), (11, 330), (18,)] + [(21, x) for x in range(1, 61)]
        calls = (calls + more + [(7,)] * 400)[:400]
        self.assertIn((21, 60), calls)
        model = self.play(calls)
        self.assertEqual((len(model.all), len(model.people)), (24, 60))


class Chain(unittest.TestCase):
    """Three passengers each wish flights 1 and 2, 2 and 3, and so on; the last three flight 1 alone."""

    def setUp(self):
        self.calls = [("flight", k, k, 2, 3, k * 100, k * 100 + 50, 0, 3, 0) for k in range(1, 21)]
        self.calls += [("flight", k, k, 2, 3, 9000, 9050, 0, 20, 0) for k in range(21, 25)]
        for x in range(1, 61):
            first = (x - 1) // 3 + 1 if x <= 57 else 1
            final = first + 1 if x <= 57 else 1
            self.calls.append(("book", x, x, 21 + x % 4, first * 100, final * 100 + 50))
        self.calls += [("cancel", k) for k in range(21, 25)]
        self.everybody = list(range(1, 61))

    def test_all_move_for_the_last(self):
        found = ask(*self.calls, ("rebook",))[-1]
        self.assertEqual(found[1::2], self.everybody)
        self.assertEqual(found[2::2], [(x - 1) // 3 + 2 for x in range(1, 58)] + [1, 1, 1])

    def test_a_seat_less(self):
        found = ask(*self.calls, ("late", 20, 1), ("rebook",))[-1]
        # Flight 20 is nobody's wish any more: without its seats the last three go without.
        self.assertEqual(found[2::2], [(x - 1) // 3 + 1 for x in range(1, 58)] + [0, 0, 0])

    def test_400_calls(self):
        count = 400 - len(self.calls) - 1
        found = ask(*self.calls, *[("could", self.everybody)] * count, ("rebook",))
        self.assertEqual(found[len(self.calls):-1], [[0, 1]] * count)
        self.assertEqual(len(found), 400)
        self.assertNotIn(0, found[-1][1:])


if __name__ == "__main__":
    unittest.main()
