"""The calls on one house, read from one list of whole numbers, and their answers in another."""

from wrongday.flightcalls import FLIGHT_CALLS
from wrongday.flights import House
from wrongday.forms import RANGES, ROW_LENGTHS, numbers_fit
from wrongday.passengercalls import PASSENGER_CALLS
from wrongday.refusals import OUT_OF_RANGE


def answer_call(house, place, numbers):
    if not numbers_fit(place, numbers):
        return [OUT_OF_RANGE]
    if place < len(FLIGHT_CALLS):
        return FLIGHT_CALLS[place](house, numbers)
    return PASSENGER_CALLS[place - len(FLIGHT_CALLS)](house, numbers)


def answers(calls):
    house = House()
    answered = []
    at = 0
    while at < len(calls):
        place = calls[at]
        first = at + 1
        count = len(RANGES[place])
        # A row's length is told ahead of it, as it may be another than it should.
        if place in ROW_LENGTHS:
            count = calls[first]
            first = first + 1
        at = first + count
        answer = answer_call(house, place, calls[first:at])
        answered.append(len(answer))
        answered.extend(answer)
    return answered
