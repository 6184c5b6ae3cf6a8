"""Beams on two or three rests, and what each rest bears."""

from beamload.errors import NoBeam, OffBeam
from beamload.loads import Spread
from beamload.ratios import fraction, minus, over, plus, times


class Beam:
    def __init__(self, length, rests):
        check_beam(length, rests)
        self.length = length
        # A copy, so that the list handed in may be changed afterwards.
        self.rests = tuple(rests)

    def bears(self, loads):
        check_loads(self.length, loads)
        if len(self.rests) == 2:
            return two_bear(self.rests, loads)
        return three_bear(self.rests, loads)


def check_beam(length, rests):
    if length < 1:
        raise NoBeam("the length of a beam is 1 or more")
    if len(rests) != 2 and len(rests) != 3:
        raise NoBeam("a beam lies on two or three rests")
    if rests[0] < 0 or rests[-1] > length:
        raise NoBeam("a rest lies from 0 to the length of the beam")
    for k in range(1, len(rests)):
        if rests[k] <= rests[k - 1]:
            raise NoBeam("each rest is greater than the one before it")


def check_loads(length, loads):
    for load in loads:
        for edge in load.edges():
            if edge < 0 or edge > length:
                raise OffBeam("a load does not lie on the beam")


def weight_of(loads):
    return (sum([load.total() for load in loads]), 1)


def turned_about(loads, place):
    turned = (0, 1)
    for load in loads:
        turned = plus(turned, load.about((place, 1)))
    return turned


def two_bear(rests, loads):
    last = over(turned_about(loads, rests[0]), (rests[1] - rests[0], 1))
    return [minus(weight_of(loads), last), last]


def three_bear(rests, loads):
    middle = middle_bears(rests, loads)
    turned = turned_about(loads, rests[0])
    left_to_last = minus(turned, times(middle, (rests[1] - rests[0], 1)))
    last = over(left_to_last, (rests[2] - rests[0], 1))
    first = minus(minus(weight_of(loads), middle), last)
    return [first, middle, last]


def middle_bears(rests, loads):
    # The share of a place is the same when the place and the rests are all doubled. So all is doubled here, and a
    # place halfway between two whole numbers is whole as well.
    doubled = [2 * rest for rest in rests]
    parts = sum([middle_part(doubled, load) for load in loads])
    return fraction(parts, 6 * share_scale(doubled))


# What the middle rest bears of a load, times 6 * share_scale(doubled): so every step keeps to whole numbers.
def middle_part(doubled, load):
    if isinstance(load, Spread):
        return spread_part(doubled, load)
    return 6 * load.size * middle_share(doubled, 2 * load.place)


def spread_part(doubled, spread):
    start = 2 * spread.start
    end = 2 * spread.end
    cuts = [start] + [rest for rest in doubled if start < rest and rest < end] + [end]
    part = 0
    for k in range(1, len(cuts)):
        part += piece_part(doubled, cuts[k - 1], cuts[k], spread.each)
    return part


def piece_part(doubled, left, right, each):
    # Both ends are doubled whole numbers, so both halves come out whole.
    halfway = (left + right) // 2
    width = (right - left) // 2
    shares = middle_share(doubled, left) + 4 * middle_share(doubled, halfway) + middle_share(doubled, right)
    return each * width * shares


def share_scale(rests):
    g = rests[1] - rests[0]
    h = rests[2] - rests[1]
    return 2 * g * g * h * h


# What the middle rest bears of a weight of 1 at the place, times share_scale(rests).
def middle_share(rests, place):
    g = rests[1] - rests[0]
    h = rests[2] - rests[1]
    u = place - rests[0]
    v = rests[2] - place
    if u <= 0:
        return u * (g + 2 * h) * g * h
    if place <= rests[1]:
        return u * (g * g + 2 * g * h - u * u) * h
    if v >= 0:
        return v * (h * h + 2 * g * h - v * v) * g
    return v * (h + 2 * g) * g * h
