"""The forms of the calls: the ranges of their plain arguments, and the lengths and ranges of their rows."""

# By place; for each plain argument its least and its greatest number.
RANGES = (
    ((1, 9999), (0, 999), (0, 17575), (0, 17575), (0, 52595999), (0, 52595999), (0, 600), (0, 999), (0, 999)),
    ((1, 9999), (0, 2880)),
    ((1, 9999), (-1440, 1440)),
    ((1, 9999), (1, 9999), (0, 600), (0, 600)),
    ((1, 9999), (1, 9999)),
    ((1, 9999),),
    ((1, 9999),),
    (),
    ((1, 9999),),
    ((1, 9999), (1, 9999)),
    (),
    ((0, 52595999),),
    ((1, 999999), (0, 999), (1, 9999), (0, 52595999), (0, 99999999)),
    ((1, 999999),),
    ((1, 999999),),
    ((1, 999999), (1, 9999), (0, 1)),
    ((1, 999999),),
    ((1, 999999),),
    (),
    (),
    (),
    ((1, 999999),),
    ((1, 9999),),
)

# By place of those calls that have a row (and no plain arguments then): its least and its greatest length.
ROW_LENGTHS = {19: (1, 60), 20: (0, 16)}

# By place the ranges of a row's numbers, by turns; a row ends where its turns do.
ROW_RANGES = {19: ((1, 999999),), 20: ((0, 100000), (0, 1000000000))}


def within(number, bounds):
    return bounds[0] <= number <= bounds[1]


def arguments_fit(place, arguments):
    return all([within(number, bounds) for number, bounds in zip(arguments, RANGES[place])])


def row_fits(place, row):
    ranges = ROW_RANGES[place]
    if not within(len(row), ROW_LENGTHS[place]) or len(row) % len(ranges) != 0:
        return False
    return all([within(number, ranges[at % len(ranges)]) for at, number in enumerate(row)])


def numbers_fit(place, numbers):
    if place in ROW_LENGTHS:
        return row_fits(place, numbers)
    return arguments_fit(place, numbers)
