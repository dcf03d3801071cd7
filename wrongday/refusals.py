"""The numbers by which calls are refused; -1 isn't among them, as only calls of their form are made."""

OUT_OF_RANGE = -2
NO_FLIGHT = -3
NO_PASSENGER = -4
THERE_ALREADY = -5
FULL = -6
NOT_AS_IT_MUST_BE = -7
DOES_NOT_FIT = -8
NO_ROOM = -9
