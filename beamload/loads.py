"""Loads: weights at one place and even spreads, what they weigh and how they turn about a place."""

from beamload.errors import NoLoad
from beamload.ratios import fraction, under


def turn_scale(x):
    # What a load turns about x = top / bottom is a whole number of parts of 2 * bottom * bottom. Whole numbers
    # over one scale are added up without bringing each sum to its lowest terms.
    return 2 * x[1] * x[1]


# Each kind of load brings its own total, edges, each_over, scaled_left and scaled_right.
class Load:
    def from_left(self, x):
        return fraction(self.scaled_left(x), turn_scale(x))

    def from_right(self, x):
        return fraction(self.scaled_right(x), turn_scale(x))

    def about(self, x):
        return fraction(self.scaled_right(x) - self.scaled_left(x), turn_scale(x))


class Weight(Load):
    def __init__(self, place, size):
        self.place = place
        self.size = size

    def total(self):
        return self.size

    def edges(self):
        return [self.place]

    def each_over(self, left, right):
        return 0

    def scaled_left(self, x):
        arm = max(x[0] - self.place * x[1], 0)
        return 2 * x[1] * self.size * arm

    def scaled_right(self, x):
        arm = max(self.place * x[1] - x[0], 0)
        return 2 * x[1] * self.size * arm


class Spread(Load):
    def __init__(self, start, end, each):
        if end <= start:
            raise NoLoad("the end of a spread is greater than its start")
        self.start = start
        self.end = end
        self.each = each

    def total(self):
        return self.each * (self.end - self.start)

    def edges(self):
        return [self.start, self.end]

    def each_over(self, left, right):
        # No edge of the load lies between the two places, so it lies all over this stretch or not on it at all.
        if under(left, (self.start, 1)) or under((self.end, 1), right):
            return 0
        return self.each

    def scaled_left(self, x):
        start = self.start * x[1]
        if start >= x[0]:
            return 0
        cut = min(x[0], self.end * x[1])
        return self.each * (cut - start) * (2 * x[0] - start - cut)

    def scaled_right(self, x):
        end = self.end * x[1]
        if end <= x[0]:
            return 0
        cut = max(x[0], self.start * x[1])
        return self.each * (end - cut) * (cut + end - 2 * x[0])
