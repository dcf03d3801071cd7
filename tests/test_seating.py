"""wishes, rebook and could: the promises 17 to 19."""

import itertools
import unittest

from tests.helper import ask, book, flight, last


def line(*rooms):
    """Flights 1, 2, ... of one pair of airports, each an hour behind the one before, with these rooms."""
    return tuple(flight(number, number, 2, 3, number * 100, number * 100 + 50, cap=room)
                 for number, room in enumerate(rooms, start=1))


def stranded(*people):
    """Passengers 1, 2, ..., of falling rank, who wish the flights of `line` from a first to a last one.

    They're booked on a flight of their own that's cancelled then: it's not one of theirs any more.
    """
    calls = [flight(99, 99, 2, 3, 9000, 9050, cap=60)]
    for number, (first, final) in enumerate(people, start=1):
        calls.append(book(number, 99, rank=number, ready=first * 100, latest=final * 100 + 50))
    return tuple(calls) + (("cancel", 99),)


class Wishes(unittest.TestCase):
    CALLS = (flight(1, 1, 2, 3, 100, 400), flight(2, 2, 2, 3, 200, 300), flight(5, 5, 2, 3, 250, 300),
             flight(3, 3, 2, 3, 210, 300), flight(6, 6, 3, 2, 200, 300), flight(7, 7, 2, 4, 200, 300),
             flight(8, 8, 4, 3, 200, 300), book(9, 2))

    def test_by_arrival_then_by_number(self):
        self.assertEqual(last(*self.CALLS, ("wishes", 9)), [0, 2, 3, 5, 1])

    def test_arrivals_as_things_stand(self):
        self.assertEqual(last(*self.CALLS, ("late", 2, 5), ("wishes", 9)), [0, 3, 5, 2, 1])
        self.assertEqual(last(*self.CALLS, ("air", 1, -150), ("wishes", 9)), [0, 1, 2, 3, 5])
        self.assertEqual(last(*self.CALLS, ("air", 5, -1), ("late", 3, 200), ("wishes", 9)), [0, 5, 2, 1, 3])

    def test_ready(self):
        for ready, found in ((200, [2, 3, 5]), (201, [3, 5]), (210, [3, 5]), (211, [5]), (250, [5]), (251, [])):
            calls = self.CALLS[:-1] + (book(9, 2, ready=ready),)
            self.assertEqual(last(*calls, ("wishes", 9)), [0] + found)
        calls = self.CALLS[:-1] + (book(9, 2, ready=251), ("late", 5, 1))
        self.assertEqual(last(*calls, ("wishes", 9)), [0, 5])

    def test_latest(self):
        for latest, found in ((400, [2, 3, 5, 1]), (399, [2, 3, 5]), (300, [2, 3, 5]), (299, [])):
            calls = self.CALLS[:-1] + (book(9, 2, latest=latest),)
            self.assertEqual(last(*calls, ("wishes", 9)), [0] + found)
        calls = self.CALLS[:-1] + (book(9, 2, latest=300), ("late", 3, 1), ("air", 1, -100))
        self.assertEqual(last(*calls, ("wishes", 9)), [0, 1, 2, 5])

    def test_only_open_flights(self):
        self.assertEqual(last(*self.CALLS, ("cancel", 3), ("wishes", 9)), [0, 2, 5, 1])
        self.assertEqual(last(*self.CALLS, ("clock", 199), ("wishes", 9)), [0, 2, 3, 5])
        self.assertEqual(last(*self.CALLS, ("late", 2, 50), ("clock", 210), ("wishes", 9)), [0, 5, 2])

    def test_not_those_that_are_not_wanted(self):
        self.assertEqual(last(*self.CALLS, ("refuse", 9, 3, 1), ("refuse", 9, 1, 1), ("wishes", 9)), [0, 2, 5])

    def test_the_room_is_not_asked(self):
        calls = self.CALLS + (flight(4, 4, 2, 3, 110, 150, cap=0),)
        self.assertEqual(last(*calls, ("wishes", 9)), [0, 4, 2, 3, 5, 1])

    def test_one_who_is_stranded(self):
        self.assertEqual(last(*self.CALLS, ("miss", 9), ("wishes", 9)), [0, 2, 3, 5, 1])
        self.assertEqual(last(*self.CALLS, ("cancel", 2), ("wishes", 9)), [0, 3, 5, 1])

    def test_a_flight_that_waits_for_the_next_minute(self):
        calls = self.CALLS[:-1] + (book(9, 2, ready=221), ("late", 2, 300), ("clock", 220), ("late", 2, 0))
        self.assertEqual(last(*calls, ("wishes", 9)), [0, 5, 2])

    def test_refusals(self):
        self.assertEqual(last(*self.CALLS, ("wishes", 8)), [-4])
        self.assertEqual(last(*self.CALLS, ("clock", 200), ("wishes", 9)), [-7])


class Rebook(unittest.TestCase):
    def given(self, rooms, people):
        """The flights that are given, 0 for none."""
        answer = last(*line(*rooms), *stranded(*people), ("rebook",))
        self.assertEqual(answer[1::2], list(range(1, len(people) + 1)))
        return answer[2::2]

    def test_nobody_is_stranded(self):
        self.assertEqual(ask(("rebook",)), [[0]])
        self.assertEqual(last(*line(1), book(7, 1), ("rebook",)), [0])
        self.assertEqual(last(*line(1), book(7, 1), ("clock", 500), ("rebook",)), [0])

    def test_the_first_wish_by_rank(self):
        self.assertEqual(self.given((1, 1, 1), ((1, 3), (1, 3), (1, 3))), [1, 2, 3])
        self.assertEqual(self.given((2, 0, 1), ((1, 3), (1, 3), (1, 3))), [1, 1, 3])
        self.assertEqual(self.given((9, 9, 9), ((2, 3), (1, 3), (3, 3))), [2, 1, 3])

    def test_those_without_a_seat(self):
        self.assertEqual(self.given((1, 1), ((1, 2), (1, 2), (1, 2), (1, 2))), [1, 2, 0, 0])
        self.assertEqual(self.given((0, 0), ((1, 2), (1, 2))), [0, 0])
        self.assertEqual(self.given((5, 5), ((3, 2), (1, 2))), [0, 1])

    def test_one_moves_so_that_one_more_is_seated(self):
        self.assertEqual(self.given((1, 1), ((1, 2), (1, 1))), [2, 1])
        self.assertEqual(self.given((1, 2), ((1, 2), (1, 2), (1, 1))), [2, 2, 1])

    def test_many_move_so_that_one_more_is_seated(self):
        self.assertEqual(self.given((1, 1, 1, 1), ((1, 2), (2, 3), (3, 4), (1, 1))), [2, 3, 4, 1])
        count = 22
        people = tuple((number, number + 1) for number in range(1, count + 1)) + ((1, 1),)
        self.assertEqual(self.given((1,) * (count + 1), people), list(range(2, count + 2)) + [1])

    def test_nobody_moves_for_one_who_is_not_seated(self):
        self.assertEqual(self.given((1, 0), ((1, 2), (1, 1))), [1, 0])
        self.assertEqual(self.given((1, 1), ((1, 2), (2, 2), (1, 1))), [1, 2, 0])
        self.assertEqual(self.given((1, 1, 1), ((1, 2), (2, 3), (1, 3), (1, 1))), [1, 2, 3, 0])

    def test_a_first_wish_is_passed_over_for_those_behind(self):
        # Seats for all: the first two leave flight 1 to the third and flight 2 to the fourth.
        self.assertEqual(self.given((1, 1, 2), ((1, 3), (1, 3), (1, 1), (2, 2))), [3, 3, 1, 2])
        self.assertEqual(self.given((2, 1, 1), ((1, 3), (1, 3), (1, 1), (2, 2))), [1, 3, 1, 2])

    def test_only_the_first_that_leaves_the_others_their_seats(self):
        self.assertEqual(self.given((1, 1, 1), ((1, 3), (1, 2), (1, 2))), [3, 1, 2])
        self.assertEqual(self.given((1, 1, 1), ((1, 3), (1, 3), (1, 2))), [1, 3, 2])

    def test_a_seat_with_the_highest_for_whom_there_is_one(self):
        # Who has the one flight alone goes without, as higher ranks have their seats.
        self.assertEqual(self.given((1, 1), ((1, 2), (1, 2), (1, 1))), [1, 2, 0])
        self.assertEqual(self.given((1, 1), ((1, 2), (1, 1), (1, 2))), [2, 1, 0])
        self.assertEqual(self.given((1, 1), ((1, 1), (1, 1), (1, 2))), [1, 0, 2])

    def test_by_rank_then_by_number(self):
        calls = line(1, 1, 0) + (flight(99, 99, 2, 3, 9000, 9050, cap=60),)
        people = (book(30, 99, rank=4), book(20, 99, rank=4), book(10, 99, rank=5), book(40, 99, rank=0))
        for order in itertools.permutations(people):
            self.assertEqual(last(*calls, *order, ("cancel", 99), ("rebook",)), [0, 40, 1, 20, 2, 30, 0, 10, 0])

    def test_the_edges_of_ranks_and_numbers(self):
        calls = line(1) + (flight(99, 99, 2, 3, 9000, 9050, cap=60),)
        people = (book(1, 99, rank=999), book(999999, 99, rank=0))
        self.assertEqual(last(*calls, *people, ("cancel", 99), ("rebook",)), [0, 999999, 1, 1, 0])

    def test_they_are_on_the_flights(self):
        calls = line(1, 1) + stranded((1, 2), (1, 1), (1, 2)) + (("rebook",),)
        self.assertEqual(ask(*calls, ("where", 1), ("where", 2), ("where", 3), ("load", 1), ("load", 2))[-5:],
                         [[0, 1, 2], [0, 1, 1], [0, 0, 0], [0, 0, 2], [0, 0, 1]])
        self.assertEqual(last(*calls, ("clock", 100), ("where", 2)), [0, 2, 1])

    def test_who_stays_stranded_comes_again(self):
        calls = line(1, 1) + stranded((1, 2), (1, 1), (1, 2)) + (("rebook",),)
        self.assertEqual(last(*calls, ("rebook",)), [0, 3, 0])
        self.assertEqual(last(*calls, ("drop", 1), ("rebook",)), [0, 3, 2])
        self.assertEqual(last(*calls, ("miss", 1), ("rebook",)), [0, 1, 2, 3, 0])

    def test_who_is_on_a_flight_does_not_move(self):
        # The one on flight 1 could fly with flight 2, and is of lower rank.
        calls = line(1, 1) + (book(50, 1, rank=900),) + stranded((1, 1), (1, 2))
        self.assertEqual(ask(*calls, ("rebook",), ("where", 50))[-2:], [[0, 1, 0, 2, 2], [0, 1, 1]])

    def test_the_room_is_what_is_left(self):
        calls = (flight(1, 1, 2, 3, 100, 150, cap=9, others=7),) + stranded((1, 1), (1, 1), (1, 1))
        self.assertEqual(last(*calls, ("rebook",)), [0, 1, 1, 2, 1, 3, 0])
        self.assertEqual(last(*calls, book(50, 1), ("rebook",)), [0, 1, 1, 2, 0, 3, 0])
        self.assertEqual(last(*calls, book(50, 1), ("miss", 50), ("rebook",)), [0, 1, 1, 2, 1, 3, 0, 50, 0])

    def test_only_wishes_are_given(self):
        calls = line(1, 1, 1) + stranded((1, 3)) + (("refuse", 1, 1, 1),)
        self.assertEqual(last(*calls, ("rebook",)), [0, 1, 2])
        self.assertEqual(last(*calls, ("cancel", 2), ("rebook",)), [0, 1, 3])
        self.assertEqual(last(*calls, ("clock", 200), ("rebook",)), [0, 1, 3])
        self.assertEqual(last(*calls, ("late", 2, 200), ("rebook",)), [0, 1, 3])
        self.assertEqual(last(*calls, ("clock", 300), ("rebook",)), [0, 1, 0])

    def test_each_with_their_own_airports(self):
        calls = (flight(1, 1, 2, 3, 100, 150), flight(2, 2, 3, 2, 100, 150), flight(3, 3, 2, 3, 200, 250),
                 flight(4, 4, 3, 2, 200, 250), book(7, 1), book(8, 2), ("cancel", 1), ("cancel", 2))
        self.assertEqual(last(*calls, ("rebook",)), [0, 7, 3, 8, 4])


class Could(unittest.TestCase):
    CALLS = line(1, 1, 0) + (book(50, 1), ("drop", 50)) + stranded((1, 2), (1, 1), (2, 2), (3, 3), (1, 3))

    def test_at_once(self):
        for row, answer in (([1], 1), ([2], 1), ([4], 0), ([1, 2], 1), ([1, 3], 1), ([2, 3], 1), ([1, 5], 1),
                            ([1, 2, 3], 0), ([1, 2, 5], 0), ([1, 4], 0), ([2, 5], 1), ([1, 2, 3, 4, 5], 0)):
            for order in itertools.permutations(row):
                self.assertEqual(last(*self.CALLS, ("could", list(order))), [0, answer], order)

    def test_rank_does_not_matter(self):
        calls = line(1) + stranded((1, 1), (1, 1))
        self.assertEqual(last(*calls, ("could", [1])), [0, 1])
        self.assertEqual(last(*calls, ("could", [2])), [0, 1])
        self.assertEqual(last(*calls, ("could", [2, 1])), [0, 0])

    def test_nothing_is_changed(self):
        found = ask(*self.CALLS, ("could", [2, 3]), ("where", 2), ("load", 1), ("could", [2, 3]), ("rebook",))
        self.assertEqual(found[-5:], [[0, 1], [0, 0, 0], [0, 1], [0, 1], [0, 1, 2, 2, 1, 3, 0, 4, 0, 5, 0]])

    def test_the_room_is_what_is_left(self):
        self.assertEqual(last(*self.CALLS, book(50, 1), ("could", [1])), [0, 1])
        self.assertEqual(last(*self.CALLS, book(50, 1), ("could", [2])), [0, 0])
        self.assertEqual(last(*self.CALLS, book(50, 1), ("could", [1, 5])), [0, 0])

    def test_the_first_one_refused_tells_the_refusal(self):
        calls = self.CALLS + (book(50, 1),)
        self.assertEqual(last(*calls, ("could", [70])), [-4])
        self.assertEqual(last(*calls, ("could", [50])), [-7])
        self.assertEqual(last(*calls, ("could", [1, 70, 50])), [-4])
        self.assertEqual(last(*calls, ("could", [1, 50, 70])), [-7])
        self.assertEqual(last(*calls, ("clock", 100), ("could", [1, 50, 70])), [-7])

    def test_one_comes_twice(self):
        calls = self.CALLS + (book(50, 1),)
        self.assertEqual(last(*calls, ("could", [1, 1])), [-8])
        self.assertEqual(last(*calls, ("could", [1, 2, 3, 1])), [-8])
        self.assertEqual(last(*calls, ("could", [1, 1, 70])), [-4])
        self.assertEqual(last(*calls, ("could", [1, 1, 50])), [-7])
        self.assertEqual(last(*calls, ("could", [70, 70])), [-4])
        self.assertEqual(last(*calls, ("could", [50, 50])), [-7])

    def test_lengths(self):
        self.assertEqual(last(*self.CALLS, ("could", [])), [-2])
        calls = (flight(1, 1, 2, 3, 100, 150, cap=60),) + stranded(*[(1, 1)] * 60)
        everybody = list(range(1, 61))
        self.assertEqual(last(*calls, ("could", everybody)), [0, 1])
        self.assertEqual(ask(*calls, ("could", everybody + [61]), ("clock", 5))[-2:], [[-2], [0]])
        self.assertEqual(ask(*calls, ("could", everybody + [1] * 40), ("clock", 5))[-2:], [[-2], [0]])
        self.assertEqual(last(*calls, ("late", 1, 1), ("could", everybody)), [0, 0])

    def test_ranges(self):
        for number in (0, -1, 1000000, 10 ** 12, -10 ** 12):
            for row in ([number], [1, number], [number, 1], [70, number], [1, 1, number]):
                self.assertEqual(last(*self.CALLS, ("could", row)), [-2], row)
        self.assertEqual(last(*self.CALLS, ("could", [999999])), [-4])
        self.assertEqual(last(*self.CALLS, ("could", [1])), [0, 1])


if __name__ == "__main__":
    unittest.main()
