"""What one aircraft flies, before and behind a flight, and the exchange of two aircraft.

Everywhere here flying is the flights that aren't cancelled, in order, and tails gives each one's
aircraft by the flight's number.
"""

from wrongday.flights import order


# By flight's number what the same aircraft flies before, None if that's nothing.
def flown_before(flying, tails):
    before = {}
    last = {}
    for flight in flying:
        tail = tails[flight.number]
        before[flight.number] = last.get(tail)
        last[tail] = flight
    return before


def flown_by(flying, tails, tail):
    return [flight for flight in flying if tails[flight.number] == tail]


def flown_from(flying, tails, first):
    same = flown_by(flying, tails, tails[first.number])
    return [flight for flight in same if order(flight) >= order(first)]


def can_come(earlier, flight):
    return earlier is None or earlier.arr <= flight.dep


# Both flights have to be neither cancelled nor gone: that's another refusal.
def can_exchange(tails, before, one, other):
    if tails[one.number] == tails[other.number] or one.src != other.src:
        return False
    return can_come(before[one.number], other) and can_come(before[other.number], one)


# The tails as they'd be behind the exchange.
def exchanged(flying, tails, one, other):
    changed = dict(tails)
    for flight in flown_from(flying, tails, one):
        changed[flight.number] = tails[other.number]
    for flight in flown_from(flying, tails, other):
        changed[flight.number] = tails[one.number]
    return changed
