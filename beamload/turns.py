"""The inner turning of a beam: at a place, and where in a stretch it is greatest."""

from beamload.errors import OffBeam
from beamload.loads import turn_scale
from beamload.ratios import fraction, minus, over, plus, times, under


def turning(beam, loads, x):
    borne = beam.bears(loads)
    check_stretch(beam, x, x)
    return turning_at(beam.rests, borne, loads, x)


def greatest(beam, loads, start, end):
    borne = beam.bears(loads)
    check_stretch(beam, start, end)
    best = (start, turning_at(beam.rests, borne, loads, start))
    last = best
    for cut in cuts_after(beam.rests, loads, start, end):
        here = (cut, turning_at(beam.rests, borne, loads, cut))
        top = top_between(last, here, loads)
        # From left to right and only where it is greater: so of several the one farthest left stays.
        if top is not None:
            best = greater(best, (top, turning_at(beam.rests, borne, loads, top)))
        best = greater(best, here)
        last = here
    return best


def check_stretch(beam, start, end):
    if under(start, (0, 1)) or under((beam.length, 1), end) or under(end, start):
        raise OffBeam("the place or stretch does not lie on the beam")


def turning_at(rests, borne, loads, x):
    turned = fraction(-sum([load.scaled_left(x) for load in loads]), turn_scale(x))
    for rest, part in zip(rests, borne):
        arm = minus(x, (rest, 1))
        if under((0, 1), arm):
            turned = plus(turned, times(part, arm))
    return turned


# Between two neighbours of these places, start before them, the inner turning is one straight line or one curve.
def cuts_after(rests, loads, start, end):
    if not under(start, end):
        return []
    places = list(rests)
    for load in loads:
        places.extend(load.edges())
    inner = [(place, 1) for place in sorted(set(places)) if under(start, (place, 1)) and under((place, 1), end)]
    return inner + [end]


# Left and right are places, each with its inner turning; the answer is None where no top lies between them.
def top_between(left, right, loads):
    each = sum([load.each_over(left[0], right[0]) for load in loads])
    # Only a curve that is bent down has a top; any other piece is greatest at one of its ends.
    if each <= 0:
        return None
    # Halfway, the curve rises as the straight line from end to end does, and it rises less by each with every
    # length of 1 to the right: at the top not at all.
    halfway = over(plus(left[0], right[0]), (2, 1))
    rise = over(minus(right[1], left[1]), minus(right[0], left[0]))
    top = plus(halfway, over(rise, (each, 1)))
    if under(left[0], top) and under(top, right[0]):
        return top
    return None


def greater(best, other):
    if under(best[1], other[1]):
        return other
    return best
