"""The numbers by which calls are refused."""

NOT_OF_ITS_FORM = -1
OUT_OF_RANGE = -2
NO_FLIGHT = -3
THERE_ALREADY = -5
FULL = -6
NOT_AS_IT_MUST_BE = -7
DOES_NOT_FIT = -8
