"""steps, claim and load: the promises 20 to 22."""

import unittest

from tests.helper import ask, book, flight, last

FLIGHT = flight(1, 1, 2, 3, 100, 200)
STEPS = ("steps", [10, 100, 30, 300, 60, 600])


def claimed(late, *steps):
    """What one is told who arrives so late, with these steps."""
    return last(FLIGHT, book(7, 1), ("late", 1, late), *steps, ("clock", 1000), ("claim", 7))


class Steps(unittest.TestCase):
    def pairs(self, count):
        return [number for pair in range(count) for number in (pair, pair)]

    def test_lengths(self):
        for count in range(9):
            self.assertEqual(ask(("steps", self.pairs(count))), [[0]], count)
        for length in (1, 3, 5, 7, 9, 11, 13, 15, 17, 18, 19, 99, 100):
            row = self.pairs(50)[:length]
            self.assertEqual(ask(("steps", row), ("clock", 1)), [[-2], [0]], length)

    def test_edges_of_the_ranges(self):
        self.assertEqual(ask(("steps", [0, 0])), [[0]])
        self.assertEqual(ask(("steps", [100000, 1000000000])), [[0]])
        self.assertEqual(ask(("steps", [0, 0, 100000, 1000000000])), [[0]])
        for row in ([-1, 0], [100001, 0], [0, -1], [0, 1000000001], [5, 5, 100001, 6], [5, 5, 6, 1000000001],
                    [5, 5, 6, -1], [5, 5, -1, 6], [10 ** 12, 0], [0, -10 ** 12]):
            self.assertEqual(ask(("steps", row)), [[-2]], row)

    def test_each_number_by_its_own_range(self):
        self.assertEqual(ask(("steps", [1, 100001])), [[0]])
        self.assertEqual(ask(("steps", [100001, 1])), [[-2]])

    def test_minutes_must_grow(self):
        self.assertEqual(ask(("steps", [5, 10, 6, 10])), [[0]])
        self.assertEqual(ask(("steps", [5, 10, 5, 20])), [[-8]])
        self.assertEqual(ask(("steps", [5, 10, 4, 20])), [[-8]])
        self.assertEqual(ask(("steps", [5, 10, 6, 20, 6, 30])), [[-8]])
        self.assertEqual(ask(("steps", [5, 10, 8, 20, 7, 30])), [[-8]])

    def test_amounts_must_not_fall(self):
        self.assertEqual(ask(("steps", [5, 10, 6, 9])), [[-8]])
        self.assertEqual(ask(("steps", [5, 10, 6, 20, 7, 19])), [[-8]])
        self.assertEqual(ask(("steps", [5, 10, 6, 20, 7, 20])), [[0]])

    def test_the_range_comes_first(self):
        self.assertEqual(ask(("steps", [5, 10, 5, 20, 100001, 30])), [[-2]])
        self.assertEqual(ask(("steps", [5, 10, 5, 20, 7])), [[-2]])

    def test_from_now_on(self):
        self.assertEqual(claimed(30, STEPS, ("steps", [5, 55])), [0, 30, 55])
        self.assertEqual(claimed(30, STEPS, ("steps", [])), [0, 30, 0])
        calls = (FLIGHT, book(7, 1), ("late", 1, 30), ("clock", 1000), ("claim", 7), STEPS, ("claim", 7))
        self.assertEqual(ask(*calls)[4:], [[0, 30, 0], [0], [0, 30, 300]])

    def test_refused_steps_change_nothing(self):
        for row in ([5, 10, 5, 20], [5, 10, 6, 9], [5], [5, -1]):
            found = ask(FLIGHT, book(7, 1), ("late", 1, 30), STEPS, ("steps", row), ("clock", 1000), ("claim", 7))
            self.assertEqual(found[-1], [0, 30, 300])

    def test_new_at_the_beginning(self):
        ask(STEPS)
        self.assertEqual(claimed(30), [0, 30, 0])


class Claim(unittest.TestCase):
    def test_the_last_step_that_is_not_above(self):
        for late, amount in ((0, 0), (9, 0), (10, 100), (11, 100), (29, 100), (30, 300), (59, 300), (60, 600),
                             (61, 600), (700, 600)):
            self.assertEqual(claimed(late, STEPS), [0, late, amount])

    def test_no_steps(self):
        self.assertEqual(claimed(45), [0, 45, 0])

    def test_a_step_of_no_minutes(self):
        self.assertEqual(claimed(0, ("steps", [0, 7, 10, 100])), [0, 0, 7])
        self.assertEqual(claimed(9, ("steps", [0, 7, 10, 100])), [0, 9, 7])

    def test_early(self):
        calls = (FLIGHT, book(7, 1), ("air", 1, -20), ("clock", 1000))
        self.assertEqual(last(*calls, STEPS, ("claim", 7)), [0, 0, 0])
        self.assertEqual(last(*calls, ("steps", [0, 7, 10, 100]), ("claim", 7)), [0, 0, 7])

    def test_longer_on_the_way(self):
        self.assertEqual(last(FLIGHT, book(7, 1), ("air", 1, 25), ("late", 1, 5), STEPS, ("clock", 1000), ("claim", 7)),
                         [0, 30, 300])

    def test_against_the_flight_booked_first(self):
        calls = (FLIGHT, flight(2, 2, 2, 3, 130, 230), flight(3, 3, 2, 3, 90, 190), STEPS, book(7, 1))
        self.assertEqual(last(*calls, ("cancel", 3), ("cancel", 1), ("rebook",), ("clock", 900), ("claim", 7)),
                         [0, 30, 300])
        self.assertEqual(last(*calls, ("cancel", 1), ("rebook",), ("clock", 900), ("claim", 7)), [0, 0, 0])
        twice = calls + (("cancel", 1), ("rebook",), ("cancel", 3), ("rebook",), ("late", 2, 4), ("clock", 900))
        self.assertEqual(last(*twice, ("claim", 7)), [0, 34, 300])

    def test_the_largest(self):
        calls = (flight(1, 1, 2, 3, 1, 2), flight(2, 2, 2, 3, 52595997, 52595998), book(7, 1), ("cancel", 1),
                 ("rebook",), ("steps", [100000, 1000000000]), ("clock", 52595999))
        self.assertEqual(last(*calls, ("claim", 7)), [0, 52595996, 1000000000])

    def test_nothing_is_changed(self):
        self.assertEqual(ask(FLIGHT, book(7, 1), STEPS, ("late", 1, 10), ("clock", 1000), ("claim", 7), ("claim", 7))[5:],
                         [[0, 10, 100]] * 2)

    def test_no_such_passenger(self):
        self.assertEqual(last(FLIGHT, book(7, 1), ("clock", 1000), ("claim", 8)), [-4])

    def test_not_flown(self):
        self.assertEqual(last(FLIGHT, book(7, 1), ("claim", 7)), [-7])
        self.assertEqual(last(FLIGHT, book(7, 1), ("clock", 99), ("claim", 7)), [-7])
        self.assertEqual(last(FLIGHT, book(7, 1), ("miss", 7), ("clock", 1000), ("claim", 7)), [-7])
        self.assertEqual(last(FLIGHT, book(7, 1), ("cancel", 1), ("claim", 7)), [-7])

    def test_not_arrived(self):
        calls = (FLIGHT, book(7, 1), ("late", 1, 10))
        self.assertEqual(last(*calls, ("clock", 110), ("claim", 7)), [-7])
        self.assertEqual(last(*calls, ("clock", 209), ("claim", 7)), [-7])
        self.assertEqual(last(*calls, ("clock", 210), ("claim", 7)), [0, 10, 0])


class Load(unittest.TestCase):
    CALLS = (flight(1, 1, 2, 3, 100, 200, cap=10, others=4), flight(2, 2, 2, 3, 100, 200, cap=10),
             book(7, 1, rank=3), book(9, 1, rank=1), book(8, 1, rank=3), book(500, 1, rank=0), book(6, 2, rank=2))

    def test_the_room_and_the_passengers_by_rank(self):
        self.assertEqual(ask(*self.CALLS, ("load", 1), ("load", 2))[-2:], [[0, 2, 500, 9, 7, 8], [0, 9, 6]])

    def test_an_empty_flight(self):
        self.assertEqual(last(flight(1, 1, 2, 3, 100, 200, cap=10, others=4), ("load", 1)), [0, 6])
        self.assertEqual(last(flight(1, 1, 2, 3, 100, 200, cap=4, others=4), ("load", 1)), [0, 0])

    def test_those_who_have_flown_stay_on_it(self):
        self.assertEqual(last(*self.CALLS, ("clock", 100), ("load", 1)), [0, 2, 500, 9, 7, 8])
        self.assertEqual(last(*self.CALLS, ("clock", 900), ("load", 1)), [0, 2, 500, 9, 7, 8])

    def test_a_cancelled_flight(self):
        self.assertEqual(last(*self.CALLS, ("cancel", 1), ("load", 1)), [0, 6])

    def test_rebooked_passengers(self):
        self.assertEqual(last(*self.CALLS, ("cancel", 2), ("rebook",), ("load", 1)), [0, 1, 500, 9, 6, 7, 8])

    def test_no_such_flight(self):
        self.assertEqual(last(*self.CALLS, ("load", 3)), [-3])


if __name__ == "__main__":
    unittest.main()
