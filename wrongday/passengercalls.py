"""The calls at the places 12 to 22: passengers, who's seated where, and what they're owed.

Each takes the house and the call's plain arguments, or its row, which are within their ranges, and
gives back the answer: a refusal's number alone, or 0 and what's told.
"""

from wrongday.passengers import Passenger, by_rank, passengers_on, room_of, wishes_of
from wrongday.refusals import DOES_NOT_FIT, FULL, NO_FLIGHT, NO_PASSENGER, NO_ROOM, NOT_AS_IT_MUST_BE, THERE_ALREADY
from wrongday.seating import best_seating, can_be_seated
from wrongday.times import has_arrived, house_stands

MOST_PASSENGERS = 60
MOST_UNWANTED = 8


def book_passenger(house, row):
    if row[2] not in house.flights:
        return [NO_FLIGHT]
    flight = house.flights[row[2]]
    if not flight.is_open():
        return [NOT_AS_IT_MUST_BE]
    if row[0] in house.passengers:
        return [THERE_ALREADY]
    if len(house.passengers) >= MOST_PASSENGERS:
        return [FULL]
    if room_of(house, flight) == 0:
        return [NO_ROOM]
    house.passengers[row[0]] = Passenger(row, flight)
    return [0, room_of(house, flight)]


def drop_passenger(house, row):
    if row[0] not in house.passengers:
        return [NO_PASSENGER]
    if house.passengers[row[0]].has_flown():
        return [NOT_AS_IT_MUST_BE]
    house.passengers.pop(row[0])
    return [0]


def miss_flight(house, row):
    if row[0] not in house.passengers:
        return [NO_PASSENGER]
    passenger = house.passengers[row[0]]
    if passenger.has_flown() or passenger.is_stranded():
        return [NOT_AS_IT_MUST_BE]
    passenger.flight = None
    return [0]


def add_unwanted(passenger, number):
    if number in passenger.unwanted:
        return [0]
    if len(passenger.unwanted) >= MOST_UNWANTED:
        return [FULL]
    passenger.unwanted[number] = True
    return [0]


def refuse_flight(house, row):
    if row[0] not in house.passengers:
        return [NO_PASSENGER]
    if row[1] not in house.flights:
        return [NO_FLIGHT]
    passenger = house.passengers[row[0]]
    if passenger.has_flown():
        return [NOT_AS_IT_MUST_BE]
    if row[2] == 1:
        return add_unwanted(passenger, row[1])
    if row[1] in passenger.unwanted:
        passenger.unwanted.pop(row[1])
    return [0]


def tell_where(house, row):
    if row[0] not in house.passengers:
        return [NO_PASSENGER]
    passenger = house.passengers[row[0]]
    if passenger.is_stranded():
        return [0, 0, 0]
    return [0, 2 if passenger.has_flown() else 1, passenger.flight.number]


def tell_wishes(house, row):
    if row[0] not in house.passengers:
        return [NO_PASSENGER]
    passenger = house.passengers[row[0]]
    if passenger.has_flown():
        return [NOT_AS_IT_MUST_BE]
    return [0] + wishes_of(house, house_stands(house), passenger)


def rooms_by_flight(house):
    rooms = {}
    for flight in house.flights.values():
        rooms[flight.number] = room_of(house, flight)
    return rooms


# By passenger's number, in the order in which the passengers come.
def wishes_by_passenger(house, passengers):
    stands = house_stands(house)
    wishes = {}
    for passenger in passengers:
        wishes[passenger.number] = wishes_of(house, stands, passenger)
    return wishes


def rebook_stranded(house, row):
    stranded = by_rank([passenger for passenger in house.passengers.values() if passenger.is_stranded()])
    given = best_seating(rooms_by_flight(house), wishes_by_passenger(house, stranded))
    answer = [0]
    for passenger in stranded:
        if passenger.number in given:
            passenger.flight = house.flights[given[passenger.number]]
        answer.extend([passenger.number, given.get(passenger.number, 0)])
    return answer


def tell_could(house, row):
    for number in row:
        if number not in house.passengers:
            return [NO_PASSENGER]
        if not house.passengers[number].is_stranded():
            return [NOT_AS_IT_MUST_BE]
    if len(set(row)) != len(row):
        return [DOES_NOT_FIT]
    wishes = wishes_by_passenger(house, [house.passengers[number] for number in row])
    return [0, 1 if can_be_seated(rooms_by_flight(house), wishes) else 0]


def set_steps(house, row):
    steps = [(row[at], row[at + 1]) for at in range(0, len(row), 2)]
    for earlier, later in zip(steps, steps[1:]):
        if later[0] <= earlier[0] or later[1] < earlier[1]:
            return [DOES_NOT_FIT]
    house.steps = steps
    return [0]


def amount_owed(steps, minutes):
    amount = 0
    for step in steps:
        if step[0] <= minutes:
            amount = step[1]
    return amount


def tell_claim(house, row):
    if row[0] not in house.passengers:
        return [NO_PASSENGER]
    passenger = house.passengers[row[0]]
    if not passenger.has_flown():
        return [NOT_AS_IT_MUST_BE]
    stand = house_stands(house)[passenger.flight.number]
    if not has_arrived(passenger.flight, stand, house.now):
        return [NOT_AS_IT_MUST_BE]
    minutes = max(stand.arrives - passenger.due, 0)
    return [0, minutes, amount_owed(house.steps, minutes)]


def tell_load(house, row):
    if row[0] not in house.flights:
        return [NO_FLIGHT]
    flight = house.flights[row[0]]
    return [0, room_of(house, flight)] + [passenger.number for passenger in passengers_on(house, flight)]


# By place, from 12 on.
PASSENGER_CALLS = (
    book_passenger,
    drop_passenger,
    miss_flight,
    refuse_flight,
    tell_where,
    tell_wishes,
    rebook_stranded,
    tell_could,
    set_steps,
    tell_claim,
    tell_load,
)
