"""The calls on one house, read from one list of whole numbers, and their answers in another."""

from wrongday.flightcalls import FLIGHT_CALLS
from wrongday.flights import House
from wrongday.forms import ARGUMENT_COUNTS, PLACES_WITH_ROW, in_ranges
from wrongday.refusals import NOT_OF_ITS_FORM, OUT_OF_RANGE


def answer_call(house, place, arguments):
    # The places behind these aren't served yet; what they're asked is only passed over.
    if place >= len(FLIGHT_CALLS):
        return [NOT_OF_ITS_FORM]
    if not in_ranges(place, arguments):
        return [OUT_OF_RANGE]
    return FLIGHT_CALLS[place](house, arguments)


def answers(calls):
    house = House()
    answered = []
    at = 0
    while at < len(calls):
        place = calls[at]
        first = at + 1
        at = first + ARGUMENT_COUNTS[place]
        answer = answer_call(house, place, calls[first:at])
        if place in PLACES_WITH_ROW:
            at = at + 1 + calls[at]
        answered.append(len(answer))
        answered.extend(answer)
    return answered
