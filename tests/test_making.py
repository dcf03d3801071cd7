"""flight, late, air, feed and unfeed: the promises 0 to 4."""

import unittest

from tests.helper import ask, flight, last

FAR = 52595999


class Flight(unittest.TestCase):
    def test_a_flight_is_there(self):
        self.assertEqual(ask(flight(7, 1, 2, 3, 100, 200), ("times", 7)), [[0], [0, 100, 200, 0]])

    def test_ranges_edges_make_a_flight(self):
        self.assertEqual(last(("flight", 1, 0, 0, 17575, 1, FAR, 0, 0, 0), ("times", 1)), [0, 1, FAR, 0])
        self.assertEqual(last(("flight", 9999, 999, 17575, 0, FAR - 1, FAR, 600, 999, 999), ("times", 9999)),
                         [0, FAR - 1, FAR, 0])

    def test_number_taken(self):
        self.assertEqual(last(flight(7, 1, 2, 3, 100, 200), flight(7, 2, 2, 3, 100, 200)), [-5])

    def test_the_number_of_a_cancelled_flight_stays_taken(self):
        self.assertEqual(last(flight(7, 1, 2, 3, 100, 200), ("cancel", 7), flight(7, 1, 2, 3, 100, 200)), [-5])

    def test_twenty_four_flights(self):
        full = [flight(number, number, 2, 3, 100, 200) for number in range(1, 25)]
        self.assertEqual(last(*full), [0])
        self.assertEqual(last(*full, flight(25, 25, 2, 3, 100, 200)), [-6])

    def test_cancelled_flights_count(self):
        full = [flight(number, number, 2, 3, 100, 200) for number in range(1, 25)]
        self.assertEqual(last(*full, ("cancel", 3), flight(25, 25, 2, 3, 100, 200)), [-6])

    def test_refused_flights_do_not_count(self):
        calls = [flight(number, number, 2, 2, 100, 200) for number in range(1, 31)]
        self.assertEqual(ask(*calls, flight(31, 1, 2, 3, 100, 200))[-1], [0])

    def test_order_of_the_refusals(self):
        full = [flight(number, number, 2, 3, 100, 200) for number in range(1, 25)]
        self.assertEqual(last(*full, flight(24, 24, 2, 2, 100, 200)), [-5])
        self.assertEqual(last(*full, flight(25, 24, 2, 2, 100, 200)), [-6])
        self.assertEqual(last(full[0], flight(1, 24, 2, 2, 100, 200)), [-5])

    def test_one_airport(self):
        self.assertEqual(ask(flight(7, 1, 2, 2, 100, 200), ("times", 7)), [[-8], [-3]])

    def test_arrival_behind_departure(self):
        self.assertEqual(ask(flight(7, 1, 2, 3, 100, 99)), [[-8]])
        self.assertEqual(ask(flight(7, 1, 2, 3, 100, 100)), [[-8]])
        self.assertEqual(ask(flight(7, 1, 2, 3, 100, 101)), [[0]])

    def test_others_at_most_cap(self):
        self.assertEqual(ask(flight(7, 1, 2, 3, 100, 200, cap=10, others=11)), [[-8]])
        self.assertEqual(ask(flight(7, 1, 2, 3, 100, 200, cap=10, others=10)), [[0]])
        self.assertEqual(ask(flight(7, 1, 2, 3, 100, 200, cap=0, others=0)), [[0]])

    def test_departure_later_than_now(self):
        self.assertEqual(ask(flight(7, 1, 2, 3, 0, 200)), [[-8]])
        self.assertEqual(ask(flight(7, 1, 2, 3, 1, 200)), [[0]])
        self.assertEqual(last(("clock", 100), flight(7, 1, 2, 3, 100, 200)), [-8])
        self.assertEqual(last(("clock", 100), flight(7, 1, 2, 3, 101, 200)), [0])

    def test_the_aircraft_must_be_there(self):
        first = flight(1, 1, 2, 3, 100, 200, turn=30)
        self.assertEqual(last(first, flight(2, 1, 3, 4, 230, 300)), [0])
        self.assertEqual(last(first, flight(2, 1, 3, 4, 229, 300)), [-8])
        self.assertEqual(last(first, flight(2, 1, 2, 4, 230, 300)), [-8])
        self.assertEqual(last(first, flight(2, 2, 2, 4, 150, 300)), [0])

    def test_a_flight_before_the_tails_last_is_refused(self):
        self.assertEqual(last(flight(1, 1, 2, 3, 1000, 1100), flight(2, 1, 5, 2, 100, 200)), [-8])

    def test_the_last_in_order_counts(self):
        calls = (flight(9, 1, 2, 3, 100, 200), flight(1, 1, 3, 4, 300, 400))
        self.assertEqual(last(*calls, flight(5, 1, 4, 5, 400, 500)), [0])
        self.assertEqual(last(*calls, flight(5, 1, 3, 5, 400, 500)), [-8])
        self.assertEqual(last(*calls, flight(5, 1, 4, 5, 399, 500)), [-8])
        turns = (flight(9, 1, 2, 3, 100, 200, turn=50), flight(1, 1, 3, 4, 300, 400, turn=20))
        self.assertEqual(last(*turns, flight(5, 1, 4, 5, 420, 500)), [0])
        self.assertEqual(last(*turns, flight(5, 1, 4, 5, 419, 500)), [-8])

    def test_only_the_plan_counts(self):
        calls = (flight(1, 1, 2, 3, 100, 200), ("late", 1, 500), ("air", 1, 500))
        self.assertEqual(last(*calls, flight(2, 1, 3, 4, 200, 300)), [0])

    def test_cancelled_flights_do_not_hold_the_aircraft(self):
        calls = (flight(1, 1, 2, 3, 100, 200), flight(2, 1, 3, 4, 300, 400), ("cancel", 2))
        self.assertEqual(last(*calls, flight(3, 1, 3, 5, 200, 300)), [0])
        self.assertEqual(last(*calls, flight(3, 1, 4, 5, 400, 500)), [-8])
        self.assertEqual(last(flight(1, 1, 2, 3, 100, 200), ("cancel", 1), flight(2, 1, 7, 8, 50, 60)), [0])

    def test_the_tail_as_swapped_counts(self):
        calls = (flight(1, 1, 2, 3, 100, 200), flight(2, 2, 2, 4, 100, 200), ("swap", 1, 2))
        self.assertEqual(last(*calls, flight(3, 1, 4, 5, 200, 300)), [0])
        self.assertEqual(last(*calls, flight(3, 1, 3, 5, 200, 300)), [-8])


class Late(unittest.TestCase):
    def test_it_waits(self):
        calls = (flight(1, 1, 2, 3, 100, 200), ("late", 1, 25), ("times", 1))
        self.assertEqual(ask(*calls), [[0], [0, 125], [0, 125, 225, 0]])

    def test_the_wait_is_set_not_added(self):
        self.assertEqual(last(flight(1, 1, 2, 3, 100, 200), ("late", 1, 25), ("late", 1, 10)), [0, 110])
        self.assertEqual(last(flight(1, 1, 2, 3, 100, 200), ("late", 1, 2880)), [0, 2980])
        self.assertEqual(last(flight(1, 1, 2, 3, 100, 200), ("late", 1, 25), ("late", 1, 0)), [0, 100])

    def test_it_waits_behind_what_it_is_held_to(self):
        calls = (flight(1, 1, 2, 3, 100, 200, turn=30), flight(2, 1, 3, 4, 230, 300), ("late", 1, 50))
        self.assertEqual(last(*calls, ("late", 2, 5)), [0, 285])

    def test_no_such_flight(self):
        self.assertEqual(ask(("late", 1, 25)), [[-3]])

    def test_not_open(self):
        first = flight(1, 1, 2, 3, 100, 200)
        self.assertEqual(last(first, ("cancel", 1), ("late", 1, 5)), [-7])
        self.assertEqual(last(first, ("clock", 99), ("late", 1, 5)), [0, 105])
        self.assertEqual(ask(first, ("clock", 100), ("late", 1, 5), ("times", 1))[2:], [[-7], [0, 100, 200, 1]])


class Air(unittest.TestCase):
    def test_longer_and_shorter(self):
        first = flight(1, 1, 2, 3, 100, 200)
        self.assertEqual(ask(first, ("air", 1, 25), ("times", 1))[1:], [[0, 225], [0, 100, 225, 0]])
        self.assertEqual(last(first, ("air", 1, 25), ("air", 1, -5)), [0, 195])
        self.assertEqual(last(first, ("air", 1, 25), ("air", 1, 0)), [0, 200])

    def test_with_a_wait(self):
        self.assertEqual(last(flight(1, 1, 2, 3, 100, 200), ("late", 1, 10), ("air", 1, 25)), [0, 235])

    def test_edges_of_the_range(self):
        first = flight(1, 1, 2, 3, 100, 2000)
        self.assertEqual(last(first, ("air", 1, 1440)), [0, 3440])
        self.assertEqual(last(first, ("air", 1, -1440)), [0, 560])

    def test_at_least_a_minute(self):
        first = flight(1, 1, 2, 3, 100, 200)
        self.assertEqual(last(first, ("air", 1, -99)), [0, 101])
        self.assertEqual(ask(first, ("air", 1, -100), ("times", 1))[1:], [[-8], [0, 100, 200, 0]])

    def test_no_such_flight(self):
        self.assertEqual(ask(("air", 1, 0)), [[-3]])

    def test_cancelled(self):
        self.assertEqual(last(flight(1, 1, 2, 3, 100, 200), ("cancel", 1), ("air", 1, -1440)), [-7])

    def test_left_but_not_arrived(self):
        calls = (flight(1, 1, 2, 3, 100, 200), ("clock", 150))
        self.assertEqual(last(*calls, ("air", 1, -49)), [0, 151])
        self.assertEqual(last(*calls, ("air", 1, -50)), [-8])
        self.assertEqual(last(*calls, ("air", 1, 30)), [0, 230])

    def test_left_late(self):
        calls = (flight(1, 1, 2, 3, 100, 200), ("late", 1, 20), ("clock", 150))
        self.assertEqual(last(*calls, ("air", 1, -69)), [0, 151])
        self.assertEqual(last(*calls, ("air", 1, -70)), [-8])

    def test_arrived(self):
        first = flight(1, 1, 2, 3, 100, 200)
        self.assertEqual(last(first, ("clock", 199), ("air", 1, 5)), [0, 205])
        self.assertEqual(last(first, ("clock", 200), ("air", 1, 5)), [-7])
        self.assertEqual(last(first, ("clock", 200), ("air", 1, -1440)), [-7])
        self.assertEqual(last(first, ("air", 1, 10), ("clock", 200), ("air", 1, 5)), [0, 205])

    def test_the_next_flight_is_made_late(self):
        calls = (flight(1, 1, 2, 3, 100, 200, turn=30), flight(2, 1, 3, 4, 230, 300), ("air", 1, 10))
        self.assertEqual(last(*calls, ("times", 2)), [0, 240, 310, 0])


FEEDER = flight(1, 1, 2, 3, 100, 200)
FED = flight(2, 2, 3, 4, 230, 300)


class Feed(unittest.TestCase):
    def test_it_waits_for_the_passengers(self):
        calls = (FEEDER, FED, ("late", 1, 20), ("feed", 2, 1, 30, 20))
        self.assertEqual(ask(*calls, ("times", 2))[3:], [[0, 250], [0, 250, 320, 0]])

    def test_it_does_not_wait_where_they_are_in_time(self):
        self.assertEqual(last(FEEDER, FED, ("feed", 2, 1, 30, 20)), [0, 230])

    def test_it_waits_most_minutes_or_not_at_all(self):
        self.assertEqual(last(FEEDER, FED, ("late", 1, 20), ("feed", 2, 1, 30, 20)), [0, 250])
        self.assertEqual(last(FEEDER, FED, ("late", 1, 21), ("feed", 2, 1, 30, 20)), [0, 230])
        self.assertEqual(last(FEEDER, FED, ("late", 1, 1), ("feed", 2, 1, 30, 0)), [0, 230])

    def test_most_counts_from_the_base(self):
        late_aircraft = (flight(5, 2, 9, 3, 50, 220, turn=10), FED, FEEDER, ("late", 5, 15))
        self.assertEqual(last(*late_aircraft, ("late", 1, 20), ("feed", 2, 1, 30, 5)), [0, 250])
        self.assertEqual(last(*late_aircraft, ("late", 1, 21), ("feed", 2, 1, 30, 5)), [0, 245])

    def test_the_wait_comes_behind_the_held_moment(self):
        self.assertEqual(last(FEEDER, FED, ("late", 1, 20), ("late", 2, 7), ("feed", 2, 1, 30, 20)), [0, 257])

    def test_the_latest_of_several_counts(self):
        calls = (flight(5, 5, 2, 3, 100, 200), flight(6, 6, 2, 3, 100, 200), FEEDER, FED,
                 ("late", 1, 10), ("late", 5, 20), ("late", 6, 15),
                 ("feed", 2, 1, 30, 60), ("feed", 2, 5, 30, 60), ("feed", 2, 6, 30, 60))
        self.assertEqual(last(*calls), [0, 250])
        self.assertEqual(last(*calls, ("late", 5, 91), ("times", 2)), [0, 245, 315, 0])

    def test_a_cancelled_feed_does_not_count(self):
        calls = (FEEDER, FED, ("late", 1, 20), ("feed", 2, 1, 30, 20), ("cancel", 1))
        self.assertEqual(last(*calls, ("times", 2)), [0, 230, 300, 0])

    def test_no_such_flight(self):
        self.assertEqual(last(FED, ("feed", 2, 1, 30, 20)), [-3])
        self.assertEqual(last(FEEDER, ("feed", 2, 1, 30, 20)), [-3])
        self.assertEqual(last(FEEDER, ("cancel", 1), ("feed", 2, 1, 30, 20)), [-3])
        self.assertEqual(last(FED, ("cancel", 2), ("feed", 2, 1, 30, 20)), [-3])

    def test_not_open_or_cancelled(self):
        self.assertEqual(last(FEEDER, FED, ("cancel", 2), ("feed", 2, 1, 30, 20)), [-7])
        self.assertEqual(last(FEEDER, FED, ("cancel", 1), ("feed", 2, 1, 30, 20)), [-7])
        self.assertEqual(last(FEEDER, FED, ("clock", 229), ("feed", 2, 1, 30, 20)), [0, 230])
        self.assertEqual(last(FEEDER, FED, ("clock", 230), ("feed", 2, 1, 30, 20)), [-7])
        self.assertEqual(last(FEEDER, FED, ("clock", 230), ("feed", 2, 1, 600, 20)), [-7])

    def test_the_airport_must_be_one(self):
        self.assertEqual(last(FEEDER, flight(2, 2, 4, 3, 230, 300), ("feed", 2, 1, 30, 20)), [-8])
        self.assertEqual(last(FEEDER, flight(2, 2, 2, 4, 230, 300), ("feed", 2, 1, 30, 20)), [-8])
        self.assertEqual(last(FEEDER, ("feed", 1, 1, 0, 0)), [-8])

    def test_the_plan_must_allow_it(self):
        self.assertEqual(last(FEEDER, FED, ("feed", 2, 1, 31, 20)), [-8])
        self.assertEqual(last(FEEDER, flight(2, 2, 3, 4, 200, 300), ("feed", 2, 1, 0, 0)), [0, 200])
        self.assertEqual(last(FEEDER, flight(2, 2, 3, 4, 199, 300), ("feed", 2, 1, 0, 0)), [-8])
        self.assertEqual(last(FEEDER, FED, ("late", 1, 600), ("feed", 2, 1, 30, 600)), [0, 830])

    def test_there_already(self):
        calls = (FEEDER, FED, ("feed", 2, 1, 30, 20))
        self.assertEqual(last(*calls, ("feed", 2, 1, 10, 5)), [-5])
        self.assertEqual(last(*calls, ("feed", 2, 1, 31, 5)), [-8])
        self.assertEqual(ask(*calls, ("feed", 2, 1, 10, 5), ("late", 1, 20), ("times", 2))[-1], [0, 250, 320, 0])

    def eight(self):
        feeders = [flight(number, number, 2, 3, 100, 200) for number in range(11, 20)]
        return feeders + [FED] + [("feed", 2, number, 30, 20) for number in range(11, 19)]

    def test_eight_feeds(self):
        self.assertEqual(last(*self.eight()), [0, 230])
        self.assertEqual(last(*self.eight(), ("feed", 2, 19, 30, 20)), [-6])
        self.assertEqual(last(*self.eight(), ("feed", 2, 18, 30, 20)), [-5])
        self.assertEqual(last(*self.eight(), ("feed", 2, 19, 31, 20)), [-8])
        self.assertEqual(last(*self.eight(), ("unfeed", 2, 11), ("feed", 2, 19, 30, 20)), [0, 230])

    def test_a_cancelled_feed_takes_its_place(self):
        self.assertEqual(last(*self.eight(), ("cancel", 11), ("feed", 2, 19, 30, 20)), [-6])

    def test_a_feed_that_has_left_counts(self):
        calls = (FEEDER, FED, ("late", 1, 20), ("clock", 150), ("feed", 2, 1, 30, 20))
        self.assertEqual(last(*calls), [0, 250])
        self.assertEqual(last(FEEDER, FED, ("clock", 210), ("feed", 2, 1, 30, 20)), [0, 230])


class Unfeed(unittest.TestCase):
    CALLS = (FEEDER, FED, ("late", 1, 20), ("feed", 2, 1, 30, 20))

    def test_it_waits_no_more(self):
        self.assertEqual(ask(*self.CALLS, ("unfeed", 2, 1), ("times", 2))[4:], [[0, 230], [0, 230, 300, 0]])

    def test_the_others_stay(self):
        calls = self.CALLS + (flight(5, 5, 2, 3, 100, 200), ("late", 5, 5), ("feed", 2, 5, 30, 20))
        self.assertEqual(last(*calls, ("unfeed", 2, 1)), [0, 235])
        self.assertEqual(last(*calls, ("unfeed", 2, 5)), [0, 250])

    def test_no_such_flight(self):
        self.assertEqual(last(*self.CALLS, ("unfeed", 3, 1)), [-3])

    def test_the_other_flight_is_not_asked(self):
        self.assertEqual(last(*self.CALLS, ("unfeed", 2, 3)), [-8])

    def test_not_open(self):
        self.assertEqual(last(*self.CALLS, ("cancel", 2), ("unfeed", 2, 1)), [-7])
        self.assertEqual(last(*self.CALLS, ("clock", 249), ("unfeed", 2, 1)), [0, 250])
        self.assertEqual(last(*self.CALLS, ("clock", 250), ("unfeed", 2, 1)), [-7])
        self.assertEqual(last(*self.CALLS, ("clock", 250), ("unfeed", 2, 3)), [-7])

    def test_not_among_the_feeds(self):
        self.assertEqual(last(*self.CALLS, ("unfeed", 1, 2)), [-8])
        self.assertEqual(last(*self.CALLS, ("unfeed", 2, 1), ("unfeed", 2, 1)), [-8])

    def test_a_cancelled_one_can_be_taken_out(self):
        self.assertEqual(last(*self.CALLS, ("cancel", 1), ("unfeed", 2, 1)), [0, 230])
        self.assertEqual(last(*self.CALLS, ("cancel", 1), ("unfeed", 2, 1), ("unfeed", 2, 1)), [-8])

    def test_it_can_be_fed_again(self):
        self.assertEqual(last(*self.CALLS, ("unfeed", 2, 1), ("feed", 2, 1, 20, 20)), [0, 240])


if __name__ == "__main__":
    unittest.main()
