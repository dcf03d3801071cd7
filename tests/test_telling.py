"""times, why and table: the promises 5 to 7."""

import unittest

from tests.helper import ask, flight, last

CHAIN = (
    flight(1, 1, 2, 3, 100, 200, turn=30),
    flight(2, 1, 3, 4, 230, 300, turn=20),
    flight(3, 1, 4, 2, 330, 400),
)


class Times(unittest.TestCase):
    def test_as_planned(self):
        self.assertEqual(ask(*CHAIN, ("times", 1), ("times", 2), ("times", 3))[3:],
                         [[0, 100, 200, 0], [0, 230, 300, 0], [0, 330, 400, 0]])

    def test_lateness_goes_on(self):
        self.assertEqual(ask(*CHAIN, ("late", 1, 15), ("times", 2), ("times", 3))[4:],
                         [[0, 245, 315, 0], [0, 335, 405, 0]])

    def test_slack_takes_lateness_up(self):
        self.assertEqual(ask(*CHAIN, ("late", 1, 10), ("times", 2), ("times", 3))[4:],
                         [[0, 240, 310, 0], [0, 330, 400, 0]])

    def test_an_early_arrival_makes_nothing_leave_early(self):
        self.assertEqual(ask(*CHAIN, ("air", 1, -50), ("times", 1), ("times", 2))[4:],
                         [[0, 100, 150, 0], [0, 230, 300, 0]])

    def test_a_cancelled_flight_before_is_passed_over(self):
        calls = (flight(1, 1, 2, 3, 100, 200), flight(2, 1, 3, 2, 230, 300), flight(3, 1, 2, 3, 330, 400),
                 ("late", 1, 200), ("cancel", 1))
        self.assertEqual(last(*calls, ("times", 3)), [0, 330, 400, 0])
        middle = (flight(1, 1, 2, 3, 100, 200, turn=10), flight(2, 1, 3, 2, 230, 300, turn=500),
                  flight(4, 1, 2, 3, 800, 820), flight(3, 1, 3, 2, 830, 900), ("cancel", 2), ("late", 1, 700))
        self.assertEqual(last(*middle, ("times", 3)), [0, 910, 980, 0])

    def test_the_states(self):
        first = flight(1, 1, 2, 3, 100, 200)
        for now, state in ((99, 0), (100, 1), (199, 1), (200, 2), (201, 2)):
            self.assertEqual(last(first, ("clock", now), ("times", 1)), [0, 100, 200, state])

    def test_arrived_counts_the_air(self):
        calls = (flight(1, 1, 2, 3, 100, 200), ("air", 1, 10))
        self.assertEqual(last(*calls, ("clock", 209), ("times", 1)), [0, 100, 210, 1])
        self.assertEqual(last(*calls, ("clock", 210), ("times", 1)), [0, 100, 210, 2])

    def test_one_that_left_leaves_when_it_left(self):
        self.assertEqual(last(*CHAIN, ("late", 1, 15), ("clock", 250), ("times", 2)), [0, 245, 315, 1])
        hurried = (flight(1, 1, 2, 3, 100, 200), ("late", 1, 50), ("clock", 120), ("late", 1, 0), ("clock", 130))
        self.assertEqual(last(*hurried, ("times", 1)), [0, 121, 221, 1])

    def test_one_that_left_waits_for_nothing_more(self):
        # At 230 flight 1 stood to arrive too late to be waited for; then it comes nearer.
        calls = (flight(1, 1, 2, 3, 100, 200), flight(2, 2, 3, 4, 230, 300), ("feed", 2, 1, 0, 20), ("late", 1, 100))
        self.assertEqual(last(*calls, ("clock", 229), ("air", 1, -60), ("times", 2)), [0, 240, 310, 0])
        self.assertEqual(last(*calls, ("clock", 230), ("air", 1, -60), ("times", 2)), [0, 230, 300, 1])

    def test_not_later_than_now_is_one_minute_behind_now(self):
        calls = (flight(1, 1, 2, 3, 100, 200), ("late", 1, 50))
        self.assertEqual(last(*calls, ("clock", 120), ("late", 1, 20), ("times", 1)), [0, 121, 221, 0])
        self.assertEqual(last(*calls, ("clock", 120), ("late", 1, 21), ("times", 1)), [0, 121, 221, 0])
        self.assertEqual(last(*calls, ("clock", 120), ("late", 1, 22), ("times", 1)), [0, 122, 222, 0])
        self.assertEqual(last(*calls, ("clock", 120), ("late", 1, 0), ("times", 1)), [0, 121, 221, 0])

    def test_refusals(self):
        self.assertEqual(last(*CHAIN, ("times", 4)), [-3])
        self.assertEqual(last(*CHAIN, ("cancel", 3), ("times", 3)), [-7])
        self.assertEqual(last(*CHAIN, ("cancel", 3), ("times", 2)), [0, 230, 300, 0])


class Why(unittest.TestCase):
    def test_no_cause(self):
        self.assertEqual(last(*CHAIN, ("why", 3)), [0, 3])
        self.assertEqual(last(*CHAIN, ("late", 3, 50), ("why", 3)), [0, 3])

    def test_the_aircraft(self):
        self.assertEqual(last(*CHAIN, ("late", 1, 15), ("why", 3)), [0, 3, 2, 1])
        self.assertEqual(last(*CHAIN, ("late", 1, 15), ("why", 2)), [0, 2, 1])
        self.assertEqual(last(*CHAIN, ("late", 1, 10), ("why", 3)), [0, 3])
        self.assertEqual(last(*CHAIN, ("late", 1, 11), ("why", 3)), [0, 3, 2, 1])
        self.assertEqual(last(*CHAIN, ("late", 2, 11), ("why", 3)), [0, 3, 2])

    FEEDS = (
        flight(9, 9, 5, 3, 100, 200), flight(8, 8, 5, 3, 100, 200), flight(7, 7, 5, 3, 100, 200),
        ("late", 7, 20), ("late", 8, 30), ("late", 9, 30),
    )

    def test_a_feed_before_the_aircraft(self):
        feeds = CHAIN + self.FEEDS + (("feed", 2, 9, 30, 60),)
        self.assertEqual(last(*feeds, ("why", 2)), [0, 2, 9])
        self.assertEqual(last(*feeds, ("late", 1, 29), ("why", 2)), [0, 2, 9])
        # As late as the base: then it's the aircraft.
        self.assertEqual(last(*feeds, ("late", 1, 30), ("why", 2)), [0, 2, 1])
        self.assertEqual(last(*feeds, ("why", 3)), [0, 3, 2, 9])

    def test_the_first_made_of_several_feeds(self):
        one = (("feed", 2, 7, 30, 60), ("feed", 2, 9, 30, 60), ("feed", 2, 8, 30, 60))
        other = (("feed", 2, 8, 30, 60), ("feed", 2, 9, 30, 60), ("feed", 2, 7, 30, 60))
        self.assertEqual(last(*CHAIN, *self.FEEDS, *one, ("why", 2)), [0, 2, 9])
        self.assertEqual(last(*CHAIN, *self.FEEDS, *other, ("why", 2)), [0, 2, 8])
        again = other + (("unfeed", 2, 8), ("feed", 2, 8, 30, 60))
        self.assertEqual(last(*CHAIN, *self.FEEDS, *again, ("why", 2)), [0, 2, 9])

    def test_a_feed_that_is_not_waited_for_is_no_cause(self):
        feeds = (("feed", 2, 8, 30, 29), ("feed", 2, 9, 30, 30))
        self.assertEqual(last(*CHAIN, *self.FEEDS, *feeds, ("why", 2)), [0, 2, 9])
        self.assertEqual(last(*CHAIN, *self.FEEDS, feeds[0], ("why", 2)), [0, 2])

    def test_a_cancelled_feed_is_no_cause(self):
        feeds = (("feed", 2, 8, 30, 60), ("feed", 2, 9, 30, 60), ("cancel", 8))
        self.assertEqual(last(*CHAIN, *self.FEEDS, *feeds, ("why", 2)), [0, 2, 9])

    def test_one_that_left_has_no_cause(self):
        self.assertEqual(last(*CHAIN, ("late", 1, 15), ("clock", 244), ("why", 3)), [0, 3, 2, 1])
        self.assertEqual(last(*CHAIN, ("late", 1, 15), ("clock", 245), ("why", 3)), [0, 3, 2])
        self.assertEqual(last(*CHAIN, ("late", 1, 15), ("clock", 245), ("why", 2)), [0, 2])

    def test_late_because_of_now_alone_has_no_cause(self):
        calls = (flight(1, 1, 2, 3, 100, 200), ("late", 1, 50), ("clock", 120), ("late", 1, 0))
        self.assertEqual(last(*calls, ("why", 1)), [0, 1])

    def test_refusals(self):
        self.assertEqual(last(*CHAIN, ("why", 4)), [-3])
        self.assertEqual(last(*CHAIN, ("cancel", 3), ("why", 3)), [-7])


class Table(unittest.TestCase):
    def test_no_flights(self):
        self.assertEqual(ask(("table",)), [[0]])

    def test_in_order_of_the_plan(self):
        calls = (flight(5, 5, 2, 3, 300, 400), flight(9, 9, 2, 3, 100, 200), flight(4, 4, 2, 3, 300, 350),
                 flight(7, 7, 2, 3, 299, 500))
        self.assertEqual(last(*calls, ("table",)), [0, 9, 100, 200, 7, 299, 500, 4, 300, 350, 5, 300, 400])
        self.assertEqual(last(*calls, ("late", 9, 900), ("table",)),
                         [0, 9, 1000, 1100, 7, 299, 500, 4, 300, 350, 5, 300, 400])

    def test_without_cancelled_flights(self):
        self.assertEqual(last(*CHAIN, ("cancel", 2), ("table",)), [0, 1, 100, 200])
        self.assertEqual(last(*CHAIN, ("cancel", 1), ("table",)), [0])

    def test_with_flights_that_left_or_arrived(self):
        self.assertEqual(last(*CHAIN, ("clock", 250), ("table",)), [0, 1, 100, 200, 2, 230, 300, 3, 330, 400])


if __name__ == "__main__":
    unittest.main()
