"""Who can be seated at once, and the best seating.

Passengers and flights are told by their numbers here: rooms gives each flight's room, wishes each
passenger's wishes, in order. The passengers in wishes are those to be seated; for the best seating
they come by rank.
"""


class Seating:
    def __init__(self, rooms, wishes):
        self.rooms = rooms
        self.wishes = wishes
        # By passenger the flight for now: whoever isn't settled may still be moved to another.
        self.given = {}
        self.settled = {}

    def seated_on(self, flight):
        return [passenger for passenger in self.given if self.given[passenger] == flight]

    def movable(self, passengers):
        return [passenger for passenger in passengers if passenger not in self.settled]

    # The nearest flight with a free seat to which one after the other would have to move for the
    # newcomer, None if there's none; takers is filled with who would move to each flight.
    def find_free(self, newcomer, takers):
        movers = [newcomer]
        at = 0
        while at < len(movers):
            mover = movers[at]
            at = at + 1
            for flight in self.wishes[mover]:
                if flight not in takers:
                    takers[flight] = mover
                    seated = self.seated_on(flight)
                    if len(seated) < self.rooms[flight]:
                        return flight
                    movers.extend(self.movable(seated))
        return None

    # Seats one more passenger, if that can be while all who are seated stay so.
    def seat(self, newcomer):
        takers = {}
        flight = self.find_free(newcomer, takers)
        if flight is None:
            return False
        # Each who moves leaves a seat to the next, up to the newcomer, who leaves none.
        while flight is not None:
            taker = takers[flight]
            earlier = self.given.get(taker)
            self.given[taker] = flight
            flight = earlier
        return True

    # One of these passengers on the flight gets another seat, if that can be. Only one of them has
    # to be tried: if all can be seated at once, then whoever lacks a seat finds one.
    def displace(self, flight, passengers):
        if len(passengers) == 0:
            return False
        displaced = passengers[0]
        self.given.pop(displaced)
        if self.seat(displaced):
            return True
        self.given[displaced] = flight
        return False

    # Gives a seated passenger the first of the wishes with which all can still be seated. At the
    # latest that's the flight given before: nobody takes the seat there while others are tried.
    def settle(self, passenger):
        self.settled[passenger] = True
        for flight in self.wishes[passenger]:
            self.given[passenger] = flight
            seated = self.seated_on(flight)
            if len(seated) <= self.rooms[flight] or self.displace(flight, self.movable(seated)):
                return


def can_be_seated(rooms, wishes):
    seating = Seating(rooms, wishes)
    for passenger in wishes:
        if not seating.seat(passenger):
            return False
    return True


# By passenger the flight; who isn't seated isn't in it.
def best_seating(rooms, wishes):
    seating = Seating(rooms, wishes)
    taken = []
    for passenger in wishes:
        if seating.seat(passenger):
            taken.append(passenger)
    for passenger in taken:
        seating.settle(passenger)
    return seating.given
