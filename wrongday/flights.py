"""A flight, the house that keeps the flights and the passengers, and the order that flights are in."""


class Flight:
    def __init__(self, row):
        self.number = row[0]
        self.src = row[2]
        self.dst = row[3]
        self.dep = row[4]
        self.arr = row[5]
        self.turn = row[6]
        self.cap = row[7]
        self.others = row[8]
        self.wait = 0
        self.air = 0
        # By flight's number (need, most); a dict, as it keeps the order in which the feeds were made.
        self.feeds = {}
        self.cancelled = False
        self.left = None

    def is_open(self):
        return not self.cancelled and self.left is None

    def planned_minutes(self):
        return self.arr - self.dep


class House:
    def __init__(self):
        self.now = 0
        self.flights = {}
        # Kept beside the flights, so that an exchange of aircraft can be tried on a copy.
        self.tails = {}
        self.passengers = {}
        # Pairs of minutes and an amount.
        self.steps = []

    # The flights that aren't cancelled, in order.
    def flying(self):
        return [flight for flight in sorted(self.flights.values(), key=order) if not flight.cancelled]


def order(flight):
    return (flight.dep, flight.number)
