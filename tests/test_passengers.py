"""book, drop, miss, refuse and where: the promises 12 to 16; and what cancel and clock do to passengers."""

import unittest

from tests.helper import ask, book, flight, last

FLIGHT = flight(1, 1, 2, 3, 100, 200, cap=10, others=4)
OTHER = flight(2, 2, 2, 3, 150, 250, cap=10, others=4)


def sixty(on=9):
    """Sixty passengers, 101 to 160, on a flight of their own, with room for a hundred."""
    return [flight(on, on, 2, 3, 100, 200, cap=100)] + [book(number, on) for number in range(101, 161)]


class Book(unittest.TestCase):
    def test_the_room_then(self):
        self.assertEqual(ask(FLIGHT, book(7, 1), book(8, 1), ("load", 1)), [[0], [0, 5], [0, 4], [0, 4, 7, 8]])

    def test_the_passenger_is_on_the_flight(self):
        self.assertEqual(last(FLIGHT, OTHER, book(7, 2), ("where", 7)), [0, 1, 2])

    def test_ready_and_latest_need_not_fit(self):
        self.assertEqual(last(FLIGHT, book(7, 1, ready=101, latest=0)), [0, 5])

    def test_no_such_flight(self):
        self.assertEqual(ask(book(7, 1), ("where", 7)), [[-3], [-4]])

    def test_not_open(self):
        self.assertEqual(last(FLIGHT, ("cancel", 1), book(7, 1)), [-7])
        self.assertEqual(last(FLIGHT, ("clock", 99), book(7, 1)), [0, 5])
        self.assertEqual(ask(FLIGHT, ("clock", 100), book(7, 1), ("where", 7))[2:], [[-7], [-4]])
        self.assertEqual(last(FLIGHT, ("clock", 200), book(7, 1)), [-7])

    def test_there_already(self):
        calls = (FLIGHT, OTHER, book(7, 1))
        self.assertEqual(last(*calls, book(7, 1)), [-5])
        self.assertEqual(ask(*calls, book(7, 2), ("where", 7))[3:], [[-5], [0, 1, 1]])
        self.assertEqual(last(*calls, ("miss", 7), book(7, 1)), [-5])
        self.assertEqual(last(*calls, ("clock", 100), book(7, 2)), [-5])

    def test_sixty_passengers(self):
        self.assertEqual(last(*sixty()), [0, 40])
        self.assertEqual(last(*sixty(), book(7, 9)), [-6])
        self.assertEqual(last(*sixty(), ("drop", 130), book(7, 9)), [0, 40])

    def test_those_who_are_stranded_or_have_flown_count(self):
        self.assertEqual(last(FLIGHT, *sixty(), ("miss", 130), book(7, 1)), [-6])
        self.assertEqual(last(FLIGHT, *sixty(), ("cancel", 9), book(7, 1)), [-6])
        self.assertEqual(last(OTHER, *sixty(), ("clock", 100), book(7, 2)), [-6])

    def test_no_room(self):
        full = flight(3, 3, 2, 3, 100, 200, cap=4, others=4)
        self.assertEqual(last(full, book(7, 3)), [-9])
        self.assertEqual(last(flight(3, 3, 2, 3, 100, 200, cap=0), book(7, 3)), [-9])
        one = flight(3, 3, 2, 3, 100, 200, cap=5, others=4)
        self.assertEqual(last(one, book(7, 3)), [0, 0])
        self.assertEqual(ask(one, book(7, 3), book(8, 3), ("where", 8))[2:], [[-9], [-4]])
        self.assertEqual(last(one, book(7, 3), ("miss", 7), book(8, 3)), [0, 0])
        self.assertEqual(last(one, book(7, 3), ("drop", 7), book(8, 3)), [0, 0])

    def test_order_of_the_refusals(self):
        full = flight(3, 3, 2, 3, 500, 600, cap=1)
        self.assertEqual(last(FLIGHT, book(7, 1), book(7, 5)), [-3])
        self.assertEqual(last(FLIGHT, OTHER, book(7, 2), ("cancel", 1), book(7, 1)), [-7])
        self.assertEqual(last(FLIGHT, *sixty(), ("cancel", 1), book(7, 1)), [-7])
        self.assertEqual(last(full, book(7, 3), ("clock", 500), book(8, 3)), [-7])
        self.assertEqual(last(*sixty(), book(130, 9)), [-5])
        self.assertEqual(last(full, book(7, 3), book(7, 3)), [-5])
        self.assertEqual(last(flight(3, 3, 2, 3, 500, 600, cap=0), *sixty(), book(7, 3)), [-6])
        self.assertEqual(last(*sixty(), book(7, 5)), [-3])


class Drop(unittest.TestCase):
    def test_gone(self):
        calls = (FLIGHT, book(7, 1), book(8, 1), ("drop", 7))
        self.assertEqual(ask(*calls, ("where", 7), ("drop", 7), ("load", 1))[3:], [[0], [-4], [-4], [0, 5, 8]])

    def test_one_who_is_stranded(self):
        calls = (FLIGHT, book(7, 1), ("miss", 7), ("drop", 7))
        self.assertEqual(ask(*calls, ("where", 7), ("rebook",))[3:], [[0], [-4], [0]])

    def test_the_number_may_come_again_with_nothing_left_of_before(self):
        calls = (FLIGHT, OTHER, flight(3, 3, 5, 6, 100, 200), book(7, 1, rank=9, ready=120), ("refuse", 7, 1, 1))
        self.assertEqual(last(*calls, ("wishes", 7)), [0, 2])
        again = calls + (("drop", 7), book(7, 1))
        self.assertEqual(ask(*again, ("wishes", 7))[-2:], [[0, 5], [0, 1, 2]])
        self.assertEqual(last(*calls, ("drop", 7), book(7, 3), ("wishes", 7)), [0, 3])

    def test_no_such_passenger(self):
        self.assertEqual(last(FLIGHT, book(7, 1), ("drop", 8)), [-4])

    def test_flown(self):
        calls = (FLIGHT, book(7, 1))
        self.assertEqual(last(*calls, ("clock", 99), ("drop", 7)), [0])
        self.assertEqual(ask(*calls, ("clock", 100), ("drop", 7), ("where", 7))[3:], [[-7], [0, 2, 1]])
        self.assertEqual(last(*calls, ("clock", 500), ("drop", 7)), [-7])


class Miss(unittest.TestCase):
    def test_stranded(self):
        calls = (FLIGHT, book(7, 1), book(8, 1), ("miss", 7))
        self.assertEqual(ask(*calls, ("where", 7), ("where", 8), ("load", 1))[3:],
                         [[0], [0, 0, 0], [0, 1, 1], [0, 5, 8]])

    def test_the_flight_stays_a_wish(self):
        self.assertEqual(last(FLIGHT, book(7, 1), ("miss", 7), ("rebook",)), [0, 7, 1])

    def test_they_do_not_fly(self):
        self.assertEqual(last(FLIGHT, book(7, 1), ("miss", 7), ("clock", 100), ("where", 7)), [0, 0, 0])

    def test_no_such_passenger(self):
        self.assertEqual(last(FLIGHT, book(7, 1), ("miss", 8)), [-4])

    def test_stranded_already(self):
        self.assertEqual(last(FLIGHT, book(7, 1), ("miss", 7), ("miss", 7)), [-7])
        self.assertEqual(last(FLIGHT, book(7, 1), ("cancel", 1), ("miss", 7)), [-7])
        self.assertEqual(last(FLIGHT, book(7, 1), ("miss", 7), ("rebook",), ("miss", 7)), [0])

    def test_flown(self):
        calls = (FLIGHT, book(7, 1))
        self.assertEqual(last(*calls, ("clock", 99), ("miss", 7)), [0])
        self.assertEqual(ask(*calls, ("clock", 100), ("miss", 7), ("where", 7))[3:], [[-7], [0, 2, 1]])


class Refuse(unittest.TestCase):
    CALLS = (FLIGHT, OTHER, book(7, 1))
    # Eight flights, 11 to 18, and a ninth, all with the passenger's airports.
    MANY = (FLIGHT, book(7, 1)) + tuple(flight(number, number, 2, 3, 100, 200) for number in range(11, 20))
    EIGHT = MANY + tuple(("refuse", 7, number, 1) for number in range(11, 19))

    def test_not_wanted_any_more(self):
        self.assertEqual(ask(*self.CALLS, ("refuse", 7, 2, 1), ("wishes", 7))[3:], [[0], [0, 1]])

    def test_wanted_again(self):
        calls = self.CALLS + (("refuse", 7, 2, 1), ("refuse", 7, 1, 1), ("refuse", 7, 2, 0))
        self.assertEqual(ask(*calls, ("wishes", 7))[-2:], [[0], [0, 2]])

    def test_whatever_it_was_before(self):
        self.assertEqual(ask(*self.CALLS, ("refuse", 7, 2, 0), ("wishes", 7))[3:], [[0], [0, 1, 2]])
        calls = self.CALLS + (("refuse", 7, 2, 1), ("refuse", 7, 2, 1))
        self.assertEqual(ask(*calls, ("wishes", 7))[-2:], [[0], [0, 1]])
        self.assertEqual(last(*calls, ("refuse", 7, 2, 0), ("wishes", 7)), [0, 1, 2])

    def test_they_stay_where_they_are(self):
        calls = self.CALLS + (("refuse", 7, 1, 1),)
        self.assertEqual(ask(*calls, ("where", 7), ("load", 1))[-2:], [[0, 1, 1], [0, 5, 7]])
        self.assertEqual(last(*calls, ("clock", 100), ("where", 7)), [0, 2, 1])
        self.assertEqual(last(*calls, ("miss", 7), ("rebook",)), [0, 7, 2])

    def test_each_passenger_has_their_own(self):
        calls = self.CALLS + (book(8, 1), ("refuse", 7, 2, 1))
        self.assertEqual(last(*calls, ("wishes", 8)), [0, 1, 2])

    def test_one_who_is_stranded(self):
        self.assertEqual(last(*self.CALLS, ("miss", 7), ("refuse", 7, 1, 1), ("wishes", 7)), [0, 2])

    def test_eight_flights(self):
        self.assertEqual(last(*self.EIGHT), [0])
        self.assertEqual(ask(*self.EIGHT, ("refuse", 7, 19, 1), ("wishes", 7))[-2:], [[-6], [0, 1, 19]])
        self.assertEqual(last(*self.EIGHT, ("refuse", 7, 18, 1)), [0])
        self.assertEqual(last(*self.EIGHT, ("refuse", 7, 19, 0)), [0])
        self.assertEqual(last(*self.EIGHT, ("refuse", 7, 11, 0), ("refuse", 7, 19, 1)), [0])

    def test_a_flight_that_is_not_open(self):
        self.assertEqual(last(*self.CALLS, ("cancel", 2), ("refuse", 7, 2, 1)), [0])
        self.assertEqual(last(*self.CALLS, ("miss", 7), ("clock", 100), ("refuse", 7, 1, 1)), [0])
        self.assertEqual(last(*self.EIGHT, ("cancel", 11), ("refuse", 7, 19, 1)), [-6])

    def test_refusals_and_their_order(self):
        self.assertEqual(last(*self.CALLS, ("refuse", 8, 1, 1)), [-4])
        self.assertEqual(last(*self.CALLS, ("refuse", 8, 3, 1)), [-4])
        self.assertEqual(last(*self.CALLS, ("refuse", 7, 3, 1)), [-3])
        self.assertEqual(last(*self.CALLS, ("refuse", 7, 3, 0)), [-3])
        self.assertEqual(last(*self.CALLS, ("clock", 100), ("refuse", 7, 3, 1)), [-3])
        self.assertEqual(last(*self.CALLS, ("clock", 99), ("refuse", 7, 2, 1)), [0])
        self.assertEqual(last(*self.CALLS, ("clock", 100), ("refuse", 7, 2, 1)), [-7])
        self.assertEqual(last(*self.CALLS, ("clock", 100), ("refuse", 7, 2, 0)), [-7])
        self.assertEqual(last(*self.CALLS, ("refuse", 7, 2, 1), ("clock", 100), ("refuse", 7, 2, 1)), [-7])
        self.assertEqual(last(*self.EIGHT, ("clock", 100), ("refuse", 7, 19, 1)), [-7])
        self.assertEqual(last(*self.EIGHT, ("refuse", 7, 20, 1)), [-3])


class Where(unittest.TestCase):
    CALLS = (FLIGHT, OTHER, book(7, 1), book(8, 2))

    def test_on_a_flight_then_flown(self):
        self.assertEqual(ask(*self.CALLS, ("clock", 99), ("where", 7), ("clock", 100), ("where", 7), ("where", 8))[4:],
                         [[0], [0, 1, 1], [0, 1], [0, 2, 1], [0, 1, 2]])

    def test_flown_stays_flown(self):
        self.assertEqual(last(*self.CALLS, ("clock", 1000), ("where", 7)), [0, 2, 1])

    def test_as_late_as_the_flight_is(self):
        calls = self.CALLS + (("late", 1, 30),)
        self.assertEqual(last(*calls, ("clock", 129), ("where", 7)), [0, 1, 1])
        self.assertEqual(last(*calls, ("clock", 130), ("where", 7)), [0, 2, 1])

    def test_stranded(self):
        self.assertEqual(last(*self.CALLS, ("miss", 7), ("where", 7)), [0, 0, 0])

    def test_no_such_passenger(self):
        self.assertEqual(last(*self.CALLS, ("where", 9)), [-4])

    def test_a_swap_leaves_passengers_on_their_flights(self):
        self.assertEqual(ask(*self.CALLS, ("swap", 1, 2), ("where", 7), ("where", 8), ("load", 1))[-3:],
                         [[0, 1, 1], [0, 1, 2], [0, 5, 7]])


class Cancelled(unittest.TestCase):
    CALLS = (
        flight(1, 1, 2, 3, 100, 200, cap=9), flight(2, 1, 3, 2, 200, 300, cap=9), flight(3, 1, 2, 3, 300, 400, cap=9),
        flight(4, 4, 2, 3, 100, 200, cap=9), book(10, 1), book(20, 2), book(21, 2), book(30, 3), book(40, 4),
    )

    def test_passengers_on_all_cancelled_flights_are_stranded(self):
        found = ask(*self.CALLS, ("cancel", 1), *[("where", number) for number in (10, 20, 21, 30, 40)])
        self.assertEqual(found[9:], [[0, 1, 2], [0, 0, 0], [0, 0, 0], [0, 0, 0], [0, 1, 3], [0, 1, 4]])

    def test_the_room_is_free_again(self):
        self.assertEqual(ask(*self.CALLS, ("cancel", 1), ("load", 1), ("load", 2), ("load", 3))[-3:],
                         [[0, 9], [0, 9], [0, 8, 30]])

    def test_a_refused_cancel_strands_nobody(self):
        self.assertEqual(last(*self.CALLS, ("clock", 100), ("cancel", 2), ("where", 10)), [0, 2, 1])
        found = ask(*self.CALLS, ("clock", 100), ("cancel", 1), ("where", 10), ("where", 20))
        self.assertEqual(found[-3:], [[-7], [0, 2, 1], [0, 1, 2]])


if __name__ == "__main__":
    unittest.main()
