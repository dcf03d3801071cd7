"""The one list of calls, the one list of answers, and the refusal -2."""

import unittest

from tests.helper import Unchanging, ask, divided, flight, last
from wrongday.house import answers

FLIGHT = (1, 9999)
MOMENT = (0, 52595999)
RANGES = {
    "flight": (FLIGHT, (0, 999), (0, 17575), (0, 17575), MOMENT, MOMENT, (0, 600), (0, 999), (0, 999)),
    "late": (FLIGHT, (0, 2880)),
    "air": (FLIGHT, (-1440, 1440)),
    "feed": (FLIGHT, FLIGHT, (0, 600), (0, 600)),
    "unfeed": (FLIGHT, FLIGHT),
    "times": (FLIGHT,),
    "why": (FLIGHT,),
    "cancel": (FLIGHT,),
    "swap": (FLIGHT, FLIGHT),
    "clock": (MOMENT,),
}
# Answered with 0 each, on the house that `HOUSE` makes, and so are those with one number at an edge, or not by -2.
GOOD = {
    "flight": (4, 3, 30, 40, 5000, 6000, 30, 100, 50),
    "late": (1, 10),
    "air": (1, 10),
    "feed": (3, 1, 20, 30),
    "unfeed": (2, 1),
    "times": (1,),
    "why": (1,),
    "cancel": (1,),
    "swap": (1, 5),
    "clock": (10,),
}
HOUSE = (
    flight(1, 1, 10, 20, 2000, 4000),
    flight(2, 2, 20, 10, 5000, 6000),
    flight(3, 6, 20, 10, 5000, 6000),
    flight(5, 5, 10, 20, 2000, 4000),
    ("feed", 2, 1, 0, 0),
)
FAR = 1000000000000


class Lists(unittest.TestCase):
    def test_counts_stand_before_the_answers(self):
        calls = [0, 7, 1, 2, 3, 100, 200, 10, 5, 5, 5, 7, 5, 8, 7, 11, 100]
        self.assertEqual(answers(calls), [1, 0, 4, 0, 100, 200, 0, 1, -3, 4, 0, 7, 100, 200, 2, 0, 7])

    def test_what_is_handed_in_stays(self):
        calls = [0, 7, 1, 2, 3, 100, 200, 10, 5, 5, 1, 7, 5, 2, 7, 5, 7, 8, 7, 10, 11, 100]
        kept = list(calls)
        answers(calls)
        self.assertEqual(calls, kept)
        answers(Unchanging(calls))

    def test_nothing_is_kept_from_one_time_to_the_next(self):
        calls = [0, 7, 1, 2, 3, 100, 200, 10, 5, 5, 11, 50, 7]
        self.assertEqual(answers(calls), answers(calls))
        self.assertEqual(answers([7]), [1, 0])

    def test_the_answer_is_a_new_list(self):
        first = answers([7, 10])
        first.append(5)
        self.assertEqual(answers([7, 10]), [1, 0, 1, 0])

    def test_four_hundred_calls(self):
        self.assertEqual(answers([7] * 400), [1, 0] * 400)

    def test_calls_of_later_places_do_not_shift_those_behind(self):
        later = [12, 1, 1, 1, 1, 1, 13, 1, 14, 1, 15, 1, 1, 1, 16, 1, 17, 1, 18, 19, 3, 7, 7, 7, 20, 0, 20, 2, 7, 7,
                 21, 7, 22, 7]
        found = divided(answers([11, 5] + later + [5, 1]))
        self.assertEqual(found, [[0]] + [[-1]] * 12 + [[-3]])


class Ranges(unittest.TestCase):
    def with_number(self, name, place, number):
        return (name,) + GOOD[name][:place] + (number,) + GOOD[name][place + 1:]

    def test_the_good_calls_are_good(self):
        for name, numbers in GOOD.items():
            self.assertEqual(last(*HOUSE, (name,) + numbers)[0], 0, name)

    def test_just_within_is_not_refused_by_the_range(self):
        for name, bounds in RANGES.items():
            for place, pair in enumerate(bounds):
                for number in pair:
                    call = self.with_number(name, place, number)
                    self.assertNotIn(last(*HOUSE, call), ([-1], [-2]), call)

    def test_just_outside_is_refused(self):
        for name, bounds in RANGES.items():
            for place, (low, high) in enumerate(bounds):
                for number in (low - 1, high + 1, -FAR, FAR):
                    call = self.with_number(name, place, number)
                    self.assertEqual(last(*HOUSE, call), [-2], call)

    def test_the_range_comes_before_all_other_refusals(self):
        for name, bounds in RANGES.items():
            for place, (low, high) in enumerate(bounds):
                # Nothing is there: all but flight and clock would be refused by -3, were the numbers right.
                call = self.with_number(name, place, high + 1)
                self.assertEqual(ask(call), [[-2]], call)
        taken = flight(1, 1, 10, 10, 0, 0, others=1000)
        self.assertEqual(last(*HOUSE, taken), [-2])
        self.assertEqual(ask(("clock", 10), ("clock", -1))[-1], [-2])

    def test_a_refused_call_changes_nothing(self):
        for name, bounds in RANGES.items():
            for place, (low, high) in enumerate(bounds):
                call = self.with_number(name, place, high + 1)
                table = ask(*HOUSE, ("table",))[-1]
                self.assertEqual(ask(*HOUSE, call, ("table",))[-1], table)


if __name__ == "__main__":
    unittest.main()
