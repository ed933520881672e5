"""The run of a play: tick by tick where its balls are, and what is left of their courses."""

from nevertakenback.courses import is_course


class Run:
    """A play as far as it went: up to its tick, of which all is done but the flying off."""

    def __init__(self, court):
        self.court = court
        self.tick = 0
        self.places = dict(court.starts)
        self.left = {ball: () for ball in court.starts}
        self.flights = {}
        self.legs = {ball: [] for ball in court.starts}
        # Of each ball (tick, place, left): from this tick on it was there with so much left of its course, and lay
        # there if that was nothing; otherwise it flew off in this very tick.
        self.stays = {ball: [(0, court.starts[ball], ())] for ball in court.starts}
        self.meetings = []
        self.strikers = []

    def take(self, strike):
        """Goes on to the strike's tick, and does the strike if it can stand; tells whether it can."""
        tick, ball, course = strike
        self.go_to(tick)
        if ball not in self.places or ball in self.flights:
            return False
        place = self.places[ball]
        if place not in self.court.owners or not is_course(self.court, place, course):
            return False
        self.left[ball] = course
        self.stays[ball].append((tick, place, course))
        self.strikers.append((self.court.owners[place], place))
        return True

    def go_to(self, tick):
        """Goes on until all balls that come by this tick have come."""
        while self.tick < tick:
            self.fly_off()
            self.tick = min([tick] + [leg[3] for leg in self.flights.values()])
            self.come()

    def finish(self):
        """Goes on until nothing is left of any course."""
        self.fly_off()
        while self.flights:
            self.go_to(min([leg[3] for leg in self.flights.values()]))
            self.fly_off()

    def fly_off(self):
        """Lets each ball at a place fly off, if something is left of its course."""
        for ball in self.places:
            if self.left[ball] and ball not in self.flights:
                place, ticks = self.left[ball][0]
                leg = (self.places[ball], place, self.tick, self.tick + ticks)
                self.flights[ball] = leg
                self.legs[ball].append(leg)

    def come(self):
        """Lets each ball come whose flight ends in this tick, and those meet that come to one place."""
        coming = sorted([ball for ball in self.flights if self.flights[ball][3] == self.tick])
        came = {}
        for ball in coming:
            place = self.flights[ball][1]
            del self.flights[ball]
            self.places[ball] = place
            self.left[ball] = self.left[ball][1:]
            came.setdefault(place, []).append(ball)
        for place in sorted(came):
            if len(came[place]) > 1:
                self.meet(place, came[place])
        for ball in coming:
            self.stays[ball].append((self.tick, self.places[ball], self.left[ball]))

    def meet(self, place, balls):
        """Gives each of the balls what was left of the next one's course."""
        lefts = [self.left[ball] for ball in balls]
        for ball, left in zip(balls, lefts[1:] + lefts[:1]):
            self.left[ball] = left
        self.meetings.append((self.tick, place, tuple(balls)))
