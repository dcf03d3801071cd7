"""When flights leave and arrive as things stand, what makes them late, and the lateness."""

from wrongday.aircraft import flown_before


class Stand:
    # cause is the number of the flight that makes this one late, None if there's none.
    def __init__(self, leaves, flight, cause):
        self.leaves = leaves
        self.arrives = leaves + flight.planned_minutes() + flight.air
        self.cause = cause


def stand_of(flight, earlier, stands, now):
    if flight.left is not None:
        return Stand(flight.left, flight, None)
    base = flight.dep
    cause = None
    if earlier is not None:
        ready = stands[earlier.number].arrives + earlier.turn
        if ready > base:
            base = ready
            cause = earlier.number
    held = base
    for fed, minutes in flight.feeds.items():
        # A feed comes earlier in order, so it has a stand already, unless it's cancelled.
        if fed in stands:
            met = stands[fed].arrives + minutes[0]
            # Only what's later takes the place: so the first of several equal feeds is the cause.
            if held < met <= base + minutes[1]:
                held = met
                cause = fed
    return Stand(max(held + flight.wait, now + 1), flight, cause)


# By flight's number the stand of each of the flights, which are those not cancelled, in order.
def stands_of(flying, tails, now):
    before = flown_before(flying, tails)
    stands = {}
    for flight in flying:
        stands[flight.number] = stand_of(flight, before[flight.number], stands, now)
    return stands


def house_stands(house):
    return stands_of(house.flying(), house.tails, house.now)


def lateness(flying, tails, now):
    stands = stands_of(flying, tails, now)
    return sum([max(stands[flight.number].arrives - flight.arr, 0) for flight in flying])


def has_arrived(flight, stand, now):
    return flight.left is not None and stand.arrives <= now
