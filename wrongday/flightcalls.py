"""The calls at the places 0 to 11: flights, their times, and what changes these.

Each takes the house and the call's plain arguments, which are within their ranges, and gives back
the answer: a refusal's number alone, or 0 and what's told.
"""

from wrongday.aircraft import can_exchange, exchanged, flown_before, flown_by, flown_from
from wrongday.flights import Flight
from wrongday.passengers import passengers_on
from wrongday.refusals import DOES_NOT_FIT, FULL, NO_FLIGHT, NOT_AS_IT_MUST_BE, THERE_ALREADY
from wrongday.times import has_arrived, house_stands, lateness

MOST_FLIGHTS = 24
MOST_FEEDS = 8


def aircraft_can_come(house, flight, tail):
    flown = flown_by(house.flying(), house.tails, tail)
    if len(flown) == 0:
        return True
    return flown[-1].dst == flight.src and flown[-1].arr + flown[-1].turn <= flight.dep


def plan_fits(house, flight):
    if flight.src == flight.dst or flight.arr <= flight.dep:
        return False
    return flight.others <= flight.cap and flight.dep > house.now


def make_flight(house, row):
    if row[0] in house.flights:
        return [THERE_ALREADY]
    if len(house.flights) >= MOST_FLIGHTS:
        return [FULL]
    flight = Flight(row)
    if not plan_fits(house, flight) or not aircraft_can_come(house, flight, row[1]):
        return [DOES_NOT_FIT]
    house.flights[flight.number] = flight
    house.tails[flight.number] = row[1]
    return [0]


def answer_leaves(house, flight):
    return [0, house_stands(house)[flight.number].leaves]


def set_wait(house, row):
    if row[0] not in house.flights:
        return [NO_FLIGHT]
    flight = house.flights[row[0]]
    if not flight.is_open():
        return [NOT_AS_IT_MUST_BE]
    flight.wait = row[1]
    return answer_leaves(house, flight)


def air_fits(house, flight, air):
    minutes = flight.planned_minutes() + air
    if minutes < 1:
        return False
    return flight.left is None or flight.left + minutes > house.now


def set_air(house, row):
    if row[0] not in house.flights:
        return [NO_FLIGHT]
    flight = house.flights[row[0]]
    if flight.cancelled or has_arrived(flight, house_stands(house)[flight.number], house.now):
        return [NOT_AS_IT_MUST_BE]
    if not air_fits(house, flight, row[1]):
        return [DOES_NOT_FIT]
    flight.air = row[1]
    return [0, house_stands(house)[flight.number].arrives]


def add_feed(house, row):
    if row[0] not in house.flights or row[1] not in house.flights:
        return [NO_FLIGHT]
    flight = house.flights[row[0]]
    fed = house.flights[row[1]]
    if not flight.is_open() or fed.cancelled:
        return [NOT_AS_IT_MUST_BE]
    if fed.dst != flight.src or fed.arr + row[2] > flight.dep:
        return [DOES_NOT_FIT]
    if fed.number in flight.feeds:
        return [THERE_ALREADY]
    if len(flight.feeds) >= MOST_FEEDS:
        return [FULL]
    flight.feeds[fed.number] = (row[2], row[3])
    return answer_leaves(house, flight)


def remove_feed(house, row):
    if row[0] not in house.flights:
        return [NO_FLIGHT]
    flight = house.flights[row[0]]
    if not flight.is_open():
        return [NOT_AS_IT_MUST_BE]
    if row[1] not in flight.feeds:
        return [DOES_NOT_FIT]
    flight.feeds.pop(row[1])
    return answer_leaves(house, flight)


def tell_times(house, row):
    if row[0] not in house.flights:
        return [NO_FLIGHT]
    flight = house.flights[row[0]]
    if flight.cancelled:
        return [NOT_AS_IT_MUST_BE]
    stand = house_stands(house)[flight.number]
    state = 0
    if has_arrived(flight, stand, house.now):
        state = 2
    elif flight.left is not None:
        state = 1
    return [0, stand.leaves, stand.arrives, state]


def tell_why(house, row):
    if row[0] not in house.flights:
        return [NO_FLIGHT]
    if house.flights[row[0]].cancelled:
        return [NOT_AS_IT_MUST_BE]
    stands = house_stands(house)
    answer = [0]
    number = row[0]
    while number is not None:
        answer.append(number)
        number = stands[number].cause
    return answer


def tell_table(house, row):
    answer = [0]
    for number, stand in house_stands(house).items():
        answer.extend([number, stand.leaves, stand.arrives])
    return answer


def cancel_one(house, flight):
    flight.cancelled = True
    for passenger in passengers_on(house, flight):
        passenger.flight = None


def cancel_flights(house, row):
    if row[0] not in house.flights:
        return [NO_FLIGHT]
    first = house.flights[row[0]]
    if not first.is_open():
        return [NOT_AS_IT_MUST_BE]
    answer = [0]
    for flight in flown_from(house.flying(), house.tails, first):
        cancel_one(house, flight)
        answer.append(flight.number)
        # The aircraft is back where it's left standing: what it flies from there stays.
        if flight.dst == first.src:
            break
    return answer


def swap_aircraft(house, row):
    if row[0] not in house.flights or row[1] not in house.flights:
        return [NO_FLIGHT]
    one = house.flights[row[0]]
    other = house.flights[row[1]]
    if not one.is_open() or not other.is_open():
        return [NOT_AS_IT_MUST_BE]
    flying = house.flying()
    if not can_exchange(house.tails, flown_before(flying, house.tails), one, other):
        return [DOES_NOT_FIT]
    house.tails = exchanged(flying, house.tails, one, other)
    return [0, lateness(flying, house.tails, house.now)]


def find_best(house, row):
    flying = house.flying()
    before = flown_before(flying, house.tails)
    by_number = sorted([flight for flight in flying if flight.is_open()], key=lambda flight: flight.number)
    least = lateness(flying, house.tails, house.now)
    answer = [0]
    for place, one in enumerate(by_number):
        for other in by_number[place + 1:]:
            if can_exchange(house.tails, before, one, other):
                late = lateness(flying, exchanged(flying, house.tails, one, other), house.now)
                # Only what's less takes the place: so of several the smallest numbers stay.
                if late < least:
                    least = late
                    answer = [0, one.number, other.number, late]
    return answer


def move_clock(house, row):
    if row[0] <= house.now:
        return [DOES_NOT_FIT]
    stands = house_stands(house)
    gone = []
    for flight in house.flying():
        if flight.is_open() and stands[flight.number].leaves <= row[0]:
            flight.left = stands[flight.number].leaves
            gone.append(flight)
    house.now = row[0]
    return [0] + [flight.number for flight in sorted(gone, key=lambda flight: (flight.left, flight.number))]


# By place.
FLIGHT_CALLS = (
    make_flight,
    set_wait,
    set_air,
    add_feed,
    remove_feed,
    tell_times,
    tell_why,
    tell_table,
    cancel_flights,
    swap_aircraft,
    find_best,
    move_clock,
)
