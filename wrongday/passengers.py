"""A passenger, the passengers on a flight and its room, and the flights that are a passenger's wishes."""


class Passenger:
    def __init__(self, row, flight):
        self.number = row[0]
        self.rank = row[1]
        self.src = flight.src
        self.dst = flight.dst
        self.due = flight.arr
        self.ready = row[3]
        self.latest = row[4]
        # By number of a flight that they don't want True.
        self.unwanted = {}
        # The flight that they're on, None if they're stranded.
        self.flight = flight

    def is_stranded(self):
        return self.flight is None

    def is_on(self, flight):
        return self.flight is not None and self.flight.number == flight.number

    def has_flown(self):
        return self.flight is not None and self.flight.left is not None


def by_rank(passengers):
    return sorted(passengers, key=lambda passenger: (passenger.rank, passenger.number))


def passengers_on(house, flight):
    return by_rank([passenger for passenger in house.passengers.values() if passenger.is_on(flight)])


def room_of(house, flight):
    return flight.cap - flight.others - len(passengers_on(house, flight))


def is_wish(passenger, flight, stand):
    if not flight.is_open() or flight.number in passenger.unwanted:
        return False
    if flight.src != passenger.src or flight.dst != passenger.dst:
        return False
    return stand.leaves >= passenger.ready and stand.arrives <= passenger.latest


# The numbers of the passenger's wishes, in order; stands are those of the house's flights.
def wishes_of(house, stands, passenger):
    found = [number for number in stands if is_wish(passenger, house.flights[number], stands[number])]
    return sorted(found, key=lambda number: (stands[number].arrives, number))
