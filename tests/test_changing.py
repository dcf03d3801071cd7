"""cancel, swap, best and clock: the promises 8 to 11."""

import unittest

from tests.helper import ask, flight, last


class Cancel(unittest.TestCase):
    ROUND = (
        flight(1, 1, 2, 3, 100, 200), flight(2, 1, 3, 4, 230, 300), flight(3, 1, 4, 2, 330, 400),
        flight(4, 1, 2, 5, 430, 500), flight(5, 1, 5, 2, 530, 600), flight(6, 2, 3, 4, 230, 300),
    )

    def test_up_to_the_return(self):
        self.assertEqual(ask(*self.ROUND, ("cancel", 1), ("table",))[6:],
                         [[0, 1, 2, 3], [0, 6, 230, 300, 4, 430, 500, 5, 530, 600]])

    def test_from_within(self):
        self.assertEqual(last(*self.ROUND, ("cancel", 4)), [0, 4, 5])

    def test_all_where_none_returns(self):
        self.assertEqual(last(*self.ROUND, ("cancel", 2)), [0, 2, 3, 4, 5])
        self.assertEqual(last(*self.ROUND, ("cancel", 5)), [0, 5])
        self.assertEqual(last(*self.ROUND, ("cancel", 6)), [0, 6])

    def test_in_order_not_by_number(self):
        calls = (flight(9, 1, 2, 3, 100, 200), flight(5, 1, 3, 4, 230, 300), flight(7, 1, 4, 2, 330, 400))
        self.assertEqual(last(*calls, ("cancel", 9)), [0, 9, 5, 7])

    def test_cancelled_ones_are_passed_over(self):
        calls = self.ROUND + (("cancel", 3), flight(7, 1, 4, 6, 430, 500))
        self.assertEqual(last(*self.ROUND, ("cancel", 3)), [0, 3, 4, 5])
        self.assertEqual(last(*calls, ("cancel", 1)), [0, 1, 2, 7])

    def test_the_tail_as_swapped_counts(self):
        calls = self.ROUND + (("swap", 2, 6),)
        self.assertEqual(last(*calls, ("cancel", 1)), [0, 1, 6])
        self.assertEqual(last(*calls, ("cancel", 2)), [0, 2, 3, 4, 5])

    def test_refusals(self):
        self.assertEqual(last(*self.ROUND, ("cancel", 7)), [-3])
        self.assertEqual(last(*self.ROUND, ("cancel", 1), ("cancel", 1)), [-7])
        self.assertEqual(last(*self.ROUND, ("cancel", 1), ("cancel", 3)), [-7])
        self.assertEqual(last(*self.ROUND, ("clock", 99), ("cancel", 1)), [0, 1, 2, 3])
        self.assertEqual(last(*self.ROUND, ("clock", 100), ("cancel", 1)), [-7])
        self.assertEqual(last(*self.ROUND, ("clock", 200), ("cancel", 1)), [-7])


class Swap(unittest.TestCase):
    TWO = (
        flight(1, 1, 7, 2, 100, 200, turn=30), flight(2, 1, 2, 3, 230, 300), flight(3, 1, 3, 8, 400, 500),
        flight(4, 2, 9, 2, 110, 210, turn=40), flight(5, 2, 2, 4, 250, 350), flight(6, 2, 4, 8, 400, 500),
    )

    def test_the_aircraft_are_exchanged(self):
        calls = self.TWO + (("late", 1, 100),)
        self.assertEqual(last(*calls, ("times", 2)), [0, 330, 400, 0])
        # Behind it flight 5 leaves at 330 behind flight 1, flight 2 at 250 behind flight 4.
        self.assertEqual(ask(*calls, ("swap", 2, 5), ("table",))[7:], [
            [0, 100 + 20 + 80 + 30],
            [0, 1, 200, 300, 4, 110, 210, 2, 250, 320, 5, 330, 430, 3, 400, 500, 6, 430, 530]])

    def test_in_either_order_of_the_flights(self):
        calls = self.TWO + (("late", 1, 100),)
        self.assertEqual(ask(*calls, ("swap", 2, 5), ("table",))[7:], ask(*calls, ("swap", 5, 2), ("table",))[7:])

    def test_what_is_behind_goes_along(self):
        calls = self.TWO + (("swap", 2, 5),)
        self.assertEqual(last(*calls, ("late", 1, 500), ("why", 6)), [0, 6, 5, 1])
        self.assertEqual(last(*calls, ("late", 1, 500), ("why", 3)), [0, 3])
        self.assertEqual(last(*calls, ("late", 4, 500), ("why", 3)), [0, 3, 2, 4])
        self.assertEqual(last(*calls, ("late", 4, 500), ("why", 6)), [0, 6])

    def test_swapped_back(self):
        calls = self.TWO + (("late", 1, 100), ("swap", 2, 5), ("swap", 2, 5), ("table",))
        self.assertEqual(last(*calls), last(*self.TWO, ("late", 1, 100), ("table",)))

    def test_lateness_counts_no_early_arrival(self):
        calls = (flight(1, 1, 2, 3, 100, 200), flight(2, 2, 2, 4, 100, 200))
        self.assertEqual(last(*calls, ("air", 1, -50), ("late", 2, 20), ("swap", 1, 2)), [0, 20])
        self.assertEqual(last(*calls, ("swap", 1, 2)), [0, 0])

    def test_lateness_counts_no_cancelled_flight_but_those_that_left(self):
        calls = (flight(1, 1, 2, 3, 100, 200), flight(2, 2, 2, 4, 100, 200), flight(3, 3, 2, 4, 50, 60),
                 flight(4, 4, 2, 4, 50, 60), ("late", 3, 7), ("late", 4, 5))
        self.assertEqual(last(*calls, ("cancel", 3), ("clock", 99), ("swap", 1, 2)), [0, 5])

    def test_no_such_flight(self):
        self.assertEqual(last(*self.TWO, ("swap", 2, 7)), [-3])
        self.assertEqual(last(*self.TWO, ("swap", 7, 2)), [-3])
        self.assertEqual(last(*self.TWO, ("cancel", 2), ("swap", 2, 7)), [-3])

    def test_not_open(self):
        self.assertEqual(last(*self.TWO, ("cancel", 2), ("swap", 2, 5)), [-7])
        self.assertEqual(last(*self.TWO, ("cancel", 2), ("swap", 5, 2)), [-7])
        self.assertEqual(last(*self.TWO, ("cancel", 2), ("swap", 2, 2)), [-7])
        self.assertEqual(last(*self.TWO, ("clock", 229), ("swap", 2, 5)), [0, 20])
        self.assertEqual(last(*self.TWO, ("clock", 230), ("swap", 2, 5)), [-7])
        self.assertEqual(last(*self.TWO, ("clock", 230), ("swap", 5, 2)), [-7])
        self.assertEqual(last(*self.TWO, ("clock", 230), ("swap", 2, 1)), [-7])

    def test_one_tail(self):
        self.assertEqual(last(*self.TWO, ("swap", 2, 2)), [-8])
        calls = (flight(1, 1, 2, 3, 100, 200), flight(2, 1, 3, 2, 200, 300), flight(3, 1, 2, 3, 300, 400))
        self.assertEqual(last(*calls, ("swap", 1, 3)), [-8])
        self.assertEqual(last(*calls, ("swap", 3, 1)), [-8])

    def test_one_airport(self):
        self.assertEqual(last(*self.TWO, ("swap", 3, 6)), [-8])
        self.assertEqual(last(*self.TWO, ("swap", 1, 4)), [-8])

    def pair(self, arr_one, dep_one, arr_other, dep_other):
        return (flight(1, 1, 7, 2, 10, arr_one, turn=0), flight(2, 1, 2, 3, dep_one, 900),
                flight(3, 2, 7, 2, 10, arr_other, turn=0), flight(4, 2, 2, 3, dep_other, 900))

    def test_what_is_flown_before_arrives_in_time(self):
        self.assertEqual(last(*self.pair(200, 400, 100, 200), ("swap", 2, 4))[0], 0)
        self.assertEqual(last(*self.pair(200, 400, 100, 199), ("swap", 2, 4)), [-8])
        self.assertEqual(last(*self.pair(200, 400, 100, 199), ("swap", 4, 2)), [-8])
        self.assertEqual(last(*self.pair(100, 200, 200, 400), ("swap", 2, 4))[0], 0)
        self.assertEqual(last(*self.pair(100, 199, 200, 400), ("swap", 2, 4)), [-8])
        self.assertEqual(last(*self.pair(100, 199, 200, 400), ("swap", 4, 2)), [-8])

    def test_turns_and_how_things_stand_are_not_asked(self):
        calls = (flight(1, 1, 7, 2, 10, 100, turn=200), flight(2, 1, 2, 3, 300, 400), flight(3, 2, 2, 3, 100, 200))
        self.assertEqual(last(*calls, ("swap", 2, 3)), [0, 200])
        self.assertEqual(last(*calls, ("late", 1, 50), ("swap", 2, 3)), [0, 50 + 250])

    def test_where_nothing_is_flown_before(self):
        calls = (flight(1, 1, 2, 3, 100, 200), flight(2, 2, 2, 4, 500, 600))
        self.assertEqual(last(*calls, ("swap", 1, 2)), [0, 0])

    def test_cancelled_flights_before_do_not_hinder(self):
        calls = self.pair(200, 400, 100, 199)
        self.assertEqual(last(*calls, ("cancel", 1), flight(5, 1, 2, 3, 400, 900), ("swap", 5, 4)), [0, 0])

    def test_a_refused_swap_changes_nothing(self):
        calls = self.pair(200, 400, 100, 199) + (("late", 1, 600), ("late", 3, 500))
        table = ask(*calls, ("table",))[-1]
        self.assertEqual(ask(*calls, ("swap", 2, 4), ("table",))[-2:], [[-8], table])


class Best(unittest.TestCase):
    def test_no_flights(self):
        self.assertEqual(ask(("best",)), [[0]])

    def test_nothing_helps(self):
        self.assertEqual(last(*Swap.TWO, ("best",)), [0])
        self.assertEqual(last(flight(1, 1, 2, 3, 100, 200), flight(2, 2, 2, 4, 100, 200), ("late", 1, 50), ("best",)),
                         [0])

    def test_the_exchange_that_helps_and_nothing_changes(self):
        calls = (flight(1, 1, 7, 2, 10, 100), flight(5, 1, 2, 3, 200, 300), flight(4, 2, 2, 3, 400, 500),
                 ("late", 1, 250))
        self.assertEqual(last(*calls, ("best",)), [0, 4, 5, 250])
        self.assertEqual(last(*calls, ("best",), ("swap", 5, 4)), [0, 250])
        self.assertEqual(last(*calls, ("best",), ("table",)), last(*calls, ("table",)))
        self.assertEqual(last(*calls, ("swap", 5, 4), ("best",)), [0])

    def test_every_pair_is_looked_at(self):
        for feeder, delayed, spare in ((9, 5, 4), (9, 4, 5), (4, 9, 5), (4, 5, 9), (5, 4, 9), (5, 9, 4)):
            calls = (flight(feeder, 1, 7, 2, 10, 100), flight(delayed, 1, 2, 3, 200, 300),
                     flight(spare, 2, 2, 3, 400, 500), ("late", feeder, 250))
            self.assertEqual(last(*calls, ("best",)), [0, min(delayed, spare), max(delayed, spare), 250])

    def spare(self, *dep):
        made = [flight(1, 1, 7, 2, 10, 100), flight(50, 1, 2, 3, 200, 300)]
        return made + [flight(number, number, 2, 3, when, when + 100) for number, when in dep] + [("late", 1, 250)]

    def test_the_least_lateness(self):
        # At first it's 400: 250 of flight 1 and 150 of flight 50.
        self.assertEqual(last(*self.spare((8, 300), (9, 340), (7, 320)), ("best",)), [0, 9, 50, 250 + 10])

    def test_of_several_the_smallest_numbers(self):
        self.assertEqual(last(*self.spare((8, 340), (9, 340), (60, 340)), ("best",)), [0, 8, 50, 260])
        self.assertEqual(last(*self.spare((60, 340), (59, 340)), ("best",)), [0, 50, 59, 260])
        self.assertEqual(last(*self.spare((60, 340), (3, 340)), ("best",)), [0, 3, 50, 260])

    def test_the_lateness_must_be_less(self):
        self.assertEqual(last(*self.spare((8, 200)), ("best",)), [0])
        self.assertEqual(last(*self.spare((8, 201)), ("best",)), [0, 8, 50, 250 + 149])

    def test_only_pairs_that_swap_takes(self):
        # The planned arrival of flight 1 is later than the departure of 8.
        calls = (flight(1, 1, 7, 2, 10, 300), flight(50, 1, 2, 3, 320, 400), flight(8, 2, 2, 3, 299, 900),
                 ("late", 1, 50))
        self.assertEqual(last(*calls, ("best",)), [0])
        self.assertEqual(last(*self.spare((8, 340)), ("cancel", 8), ("best",)), [0])
        self.assertEqual(last(*self.spare((8, 340)), ("late", 50, 300), ("clock", 340), ("best",)), [0])


class Clock(unittest.TestCase):
    def test_flights_leave(self):
        calls = (flight(1, 1, 2, 3, 100, 200), flight(2, 2, 2, 3, 150, 250))
        self.assertEqual(ask(*calls, ("clock", 99), ("clock", 100), ("clock", 149), ("clock", 150))[2:],
                         [[0], [0, 1], [0], [0, 2]])

    def test_in_order_of_leaving_then_by_number(self):
        calls = (flight(3, 3, 2, 3, 100, 200), flight(5, 5, 2, 3, 150, 250), flight(4, 4, 2, 3, 160, 250),
                 flight(9, 9, 2, 3, 110, 250), ("late", 3, 90), ("late", 5, 10))
        self.assertEqual(last(*calls, ("clock", 1000)), [0, 9, 4, 5, 3])

    def test_they_left_when_they_stood_to_leave(self):
        calls = (flight(1, 1, 2, 3, 100, 200, turn=10), flight(2, 1, 3, 4, 210, 300), ("late", 1, 25))
        self.assertEqual(ask(*calls, ("clock", 1000), ("times", 1), ("times", 2))[3:],
                         [[0, 1, 2], [0, 125, 225, 2], [0, 235, 325, 2]])

    def test_as_things_stand_before_the_call(self):
        calls = (flight(1, 1, 2, 3, 100, 200), ("late", 1, 50), ("clock", 120), ("late", 1, 0))
        self.assertEqual(ask(*calls, ("clock", 121), ("times", 1))[4:], [[0, 1], [0, 121, 221, 1]])
        self.assertEqual(ask(*calls, ("clock", 500), ("times", 1))[4:], [[0, 1], [0, 121, 221, 2]])

    def test_cancelled_flights_do_not_leave(self):
        calls = (flight(1, 1, 2, 3, 100, 200), flight(2, 2, 2, 3, 150, 250), ("cancel", 1))
        self.assertEqual(last(*calls, ("clock", 1000)), [0, 2])

    def test_each_leaves_once(self):
        self.assertEqual(last(flight(1, 1, 2, 3, 100, 200), ("clock", 100), ("clock", 101)), [0])

    def test_not_later_than_now(self):
        self.assertEqual(ask(("clock", 0)), [[-8]])
        self.assertEqual(ask(("clock", 1)), [[0]])
        self.assertEqual(ask(("clock", 50), ("clock", 50), ("clock", 49), ("clock", 51)), [[0], [-8], [-8], [0]])
        self.assertEqual(ask(("clock", 52595999), ("clock", 52595999)), [[0], [-8]])

    def test_a_refused_clock_changes_nothing(self):
        calls = (("clock", 50), ("clock", 40), flight(1, 1, 2, 3, 45, 60), flight(2, 1, 2, 3, 51, 60))
        self.assertEqual(ask(*calls), [[0], [-8], [-8], [0]])


if __name__ == "__main__":
    unittest.main()
