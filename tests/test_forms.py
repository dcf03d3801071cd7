"""The one list of calls, the one list of answers, and the refusal -2."""

import unittest

from tests.helper import PLACES, Unchanging, ask, book, divided, flight, last
from wrongday.house import answers

FLIGHT = (1, 9999)
MOMENT = (0, 52595999)
PASSENGER = (1, 999999)
RANGES = {
    "flight": (FLIGHT, (0, 999), (0, 17575), (0, 17575), MOMENT, MOMENT, (0, 600), (0, 999), (0, 999)),
    "late": (FLIGHT, (0, 2880)),
    "air": (FLIGHT, (-1440, 1440)),
    "feed": (FLIGHT, FLIGHT, (0, 600), (0, 600)),
    "unfeed": (FLIGHT, FLIGHT),
    "times": (FLIGHT,),
    "why": (FLIGHT,),
    "cancel": (FLIGHT,),
    "swap": (FLIGHT, FLIGHT),
    "clock": (MOMENT,),
    "book": (PASSENGER, (0, 999), FLIGHT, MOMENT, (0, 99999999)),
    "drop": (PASSENGER,),
    "miss": (PASSENGER,),
    "refuse": (PASSENGER, FLIGHT, (0, 1)),
    "where": (PASSENGER,),
    "wishes": (PASSENGER,),
    "claim": (PASSENGER,),
    "load": (FLIGHT,),
}
# Answered with 0 each, on the house that `HOUSE` makes, and so are those with one number at an edge, or not by -2.
GOOD = {
    "flight": (4, 3, 30, 40, 5000, 6000, 30, 100, 50),
    "late": (1, 10),
    "air": (1, 10),
    "feed": (3, 1, 20, 30),
    "unfeed": (2, 1),
    "times": (1,),
    "why": (1,),
    "cancel": (1,),
    "swap": (1, 5),
    "clock": (10,),
    "book": (8, 5, 1, 0, 9000),
    "drop": (7,),
    "miss": (7,),
    "refuse": (7, 1, 1),
    "where": (7,),
    "wishes": (7,),
    "claim": (6,),
    "load": (1,),
}
# Behind it passenger 6 has arrived with flight 9, and 7 is on flight 2.
HOUSE = (
    flight(9, 9, 10, 20, 2, 3),
    book(6, 9),
    ("clock", 4),
    flight(1, 1, 10, 20, 2000, 4000),
    flight(2, 2, 20, 10, 5000, 6000),
    flight(3, 6, 20, 10, 5000, 6000),
    flight(5, 5, 10, 20, 2000, 4000),
    ("feed", 2, 1, 0, 0),
    book(7, 2),
)
FAR = 1000000000000


class Lists(unittest.TestCase):
    def test_counts_stand_before_the_answers(self):
        calls = [0, 7, 1, 2, 3, 100, 200, 10, 5, 5, 5, 7, 5, 8, 7, 11, 100]
        self.assertEqual(answers(calls), [1, 0, 4, 0, 100, 200, 0, 1, -3, 4, 0, 7, 100, 200, 2, 0, 7])

    def test_what_is_handed_in_stays(self):
        calls = [0, 7, 1, 2, 3, 100, 200, 10, 5, 5, 1, 7, 5, 2, 7, 5, 7, 8, 7, 10, 11, 100]
        kept = list(calls)
        answers(calls)
        self.assertEqual(calls, kept)
        answers(Unchanging(calls))

    def test_nothing_is_kept_from_one_time_to_the_next(self):
        calls = [0, 7, 1, 2, 3, 100, 200, 10, 5, 5, 11, 50, 7]
        self.assertEqual(answers(calls), answers(calls))
        self.assertEqual(answers([7]), [1, 0])

    def test_the_answer_is_a_new_list(self):
        first = answers([7, 10])
        first.append(5)
        self.assertEqual(answers([7, 10]), [1, 0, 1, 0])

    def test_four_hundred_calls(self):
        self.assertEqual(answers([7] * 400), [1, 0] * 400)

    def test_every_place_has_its_form(self):
        calls = [12, 1, 1, 1, 1, 1, 13, 1, 14, 1, 15, 1, 1, 1, 16, 1, 17, 1, 18, 19, 3, 7, 7, 7, 20, 0, 20, 2, 7, 7,
                 21, 7, 22, 7]
        found = divided(answers([11, 5] + calls + [5, 1]))
        self.assertEqual(found, [[0], [-3], [-4], [-4], [-4], [-4], [-4], [0], [-4], [0], [0], [-4], [-3], [-3]])
        self.assertEqual(sorted(PLACES.values()), list(range(23)))
        self.assertEqual(set(RANGES) | {"table", "best", "rebook", "could", "steps"}, set(PLACES))

    def test_rows_of_any_length_do_not_shift_what_is_behind(self):
        for place in (19, 20):
            for length in (0, 1, 2, 16, 17, 18, 59, 60, 61, 99, 100):
                for number in (0, 5, FAR):
                    found = divided(answers([11, 5, place, length] + [number] * length + [11, 6, 5, 1]))
                    self.assertEqual(len(found), 4)
                    self.assertEqual([found[0]] + found[2:], [[0], [0], [-3]])

class Ranges(unittest.TestCase):
    def with_number(self, name, place, number):
        return (name,) + GOOD[name][:place] + (number,) + GOOD[name][place + 1:]

    def test_the_good_calls_are_good(self):
        for name, numbers in GOOD.items():
            self.assertEqual(last(*HOUSE, (name,) + numbers)[0], 0, name)

    def test_just_within_is_not_refused_by_the_range(self):
        for name, bounds in RANGES.items():
            for place, pair in enumerate(bounds):
                for number in pair:
                    call = self.with_number(name, place, number)
                    self.assertNotIn(last(*HOUSE, call), ([-1], [-2]), call)

    def test_just_outside_is_refused(self):
        for name, bounds in RANGES.items():
            for place, (low, high) in enumerate(bounds):
                for number in (low - 1, high + 1, -FAR, FAR):
                    call = self.with_number(name, place, number)
                    self.assertEqual(last(*HOUSE, call), [-2], call)

    def test_the_range_comes_before_all_other_refusals(self):
        for name, bounds in RANGES.items():
            for place, (low, high) in enumerate(bounds):
                # Nothing is there: nearly all would be refused by -3 or -4, were the numbers right.
                call = self.with_number(name, place, high + 1)
                self.assertEqual(ask(call), [[-2]], call)
        taken = flight(1, 1, 10, 10, 0, 0, others=1000)
        self.assertEqual(last(*HOUSE, taken), [-2])
        self.assertEqual(ask(("clock", 10), ("clock", -1))[-1], [-2])

    def test_a_refused_call_changes_nothing(self):
        for name, bounds in RANGES.items():
            for place, (low, high) in enumerate(bounds):
                call = self.with_number(name, place, high + 1)
                asked = (("table",), ("where", 7), ("wishes", 7), ("where", 8), ("load", 1), ("load", 2), ("claim", 6))
                self.assertEqual(ask(*HOUSE, call, *asked)[-7:], ask(*HOUSE, *asked)[-7:])


if __name__ == "__main__":
    unittest.main()
