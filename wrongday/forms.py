"""The forms of the calls: how many plain arguments each has, in which ranges, and which have a row."""

# By place; of all calls, as also those that aren't served have to be passed over.
ARGUMENT_COUNTS = (9, 2, 2, 4, 2, 1, 1, 0, 1, 2, 0, 1, 5, 1, 1, 3, 1, 1, 0, 0, 0, 1, 1)

# By place; for each plain argument of a call that's served its least and its greatest number.
RANGES = (
    ((1, 9999), (0, 999), (0, 17575), (0, 17575), (0, 52595999), (0, 52595999), (0, 600), (0, 999), (0, 999)),
    ((1, 9999), (0, 2880)),
    ((1, 9999), (-1440, 1440)),
    ((1, 9999), (1, 9999), (0, 600), (0, 600)),
    ((1, 9999), (1, 9999)),
    ((1, 9999),),
    ((1, 9999),),
    (),
    ((1, 9999),),
    ((1, 9999), (1, 9999)),
    (),
    ((0, 52595999),),
)

# The places of the calls that have a row behind their plain arguments.
PLACES_WITH_ROW = (19, 20)


def in_ranges(place, arguments):
    for number, bounds in zip(arguments, RANGES[place]):
        if number < bounds[0] or number > bounds[1]:
            return False
    return True
