"""What the document says, reckoned once more with Python's own fractions: for the tests alone.

A load is told here as a tuple: a weight as (place, size), a spread as (start, end, each)."""

import random
from fractions import Fraction

from beamload.loads import Spread, Weight

HALF = Fraction(1, 2)


def pair(worth):
    worth = Fraction(worth)
    return (worth.numerator, worth.denominator)


def worth(answer):
    return Fraction(answer[0], answer[1])


def made(told):
    return Weight(*told) if len(told) == 2 else Spread(*told)


def all_made(tolds):
    return [made(told) for told in tolds]


def weighs(told):
    return told[1] if len(told) == 2 else told[2] * (told[1] - told[0])


def left_turn(told, x):
    if len(told) == 2:
        return told[1] * (x - told[0]) if told[0] < x else Fraction(0)
    start, end, each = told
    if start >= x:
        return Fraction(0)
    c = min(x, end)
    return each * (c - start) * (x - HALF * (start + c))


def right_turn(told, x):
    if len(told) == 2:
        return told[1] * (told[0] - x) if told[0] > x else Fraction(0)
    start, end, each = told
    if end <= x:
        return Fraction(0)
    c = max(x, start)
    return each * (end - c) * (HALF * (c + end) - x)


def about_turn(told, x):
    return right_turn(told, x) - left_turn(told, x)


def share(rests, a):
    p, q, r = rests
    g, h = Fraction(q - p), Fraction(r - q)
    if a <= p:
        return (a - p) * (g + 2 * h) / (2 * g * h)
    if a <= q:
        u = a - p
        return u * (g * g + 2 * g * h - u * u) / (2 * g * g * h)
    if a <= r:
        v = r - a
        return v * (h * h + 2 * g * h - v * v) / (2 * g * h * h)
    return (r - a) * (h + 2 * g) / (2 * g * h)


def middle_of(rests, told):
    if len(told) == 2:
        return told[1] * share(rests, Fraction(told[0]))
    start, end, each = told
    cuts = [Fraction(cut) for cut in [start] + [rest for rest in rests if start < rest < end] + [end]]
    borne = Fraction(0)
    for b, c in zip(cuts, cuts[1:]):
        borne += each * (c - b) * (share(rests, b) + 4 * share(rests, (b + c) / 2) + share(rests, c)) / 6
    return borne


def borne_by(rests, tolds):
    weight = Fraction(sum(weighs(told) for told in tolds))
    turn = sum((about_turn(told, Fraction(rests[0])) for told in tolds), Fraction(0))
    if len(rests) == 2:
        last = turn / (rests[1] - rests[0])
        return [weight - last, last]
    middle = sum((middle_of(rests, told) for told in tolds), Fraction(0))
    last = (turn - middle * (rests[1] - rests[0])) / (rests[2] - rests[0])
    return [weight - middle - last, middle, last]


def turned_from_left(rests, borne, tolds, x):
    held = sum((part * (x - rest) for rest, part in zip(rests, borne) if rest < x), Fraction(0))
    return held - sum((left_turn(told, x) for told in tolds), Fraction(0))


def turned_from_right(rests, borne, tolds, x):
    held = sum((part * (rest - x) for rest, part in zip(rests, borne) if rest > x), Fraction(0))
    return held - sum((right_turn(told, x) for told in tolds), Fraction(0))


def marks(rests, tolds):
    """The rests and the places, starts and ends of the loads, from left to right."""
    found = set(rests)
    for told in tolds:
        found.update(told[:1] if len(told) == 2 else told[:2])
    return sorted(found)


def bent_off(rests, tolds, inner):
    """The sum of point 12, for an inner turning told by a function."""
    p, q, r = rests
    cuts = [Fraction(mark) for mark in marks(rests, tolds) if p <= mark <= r]

    def leaned(x):
        return inner(x) * ((x - p) / (q - p) if x <= q else (r - x) / (r - q))

    pieces = zip(cuts, cuts[1:])
    return sum((c - b) * (leaned(b) + 4 * leaned((b + c) / 2) + leaned(c)) for b, c in pieces)


def most_turned(rests, tolds, start, end):
    """Point 14: each piece as a curve through three of its places, reckoned from the right side."""
    borne = borne_by(rests, tolds)
    cuts = [start] + [Fraction(mark) for mark in marks(rests, tolds) if start < mark < end] + [end]
    places = set(cuts)
    for b, c in zip(cuts, cuts[1:]):
        if b == c:
            continue
        f, g, h = [turned_from_right(rests, borne, tolds, x) for x in (b, (b + c) / 2, c)]
        bend = f - 2 * g + h
        if bend < 0:
            top = (b + c) / 2 + (c - b) / 4 * (f - h) / bend
            if b < top < c:
                places.add(top)
    found = [(turned_from_right(rests, borne, tolds, x), -x) for x in places]
    most, place = max(found)
    return -place, most


def number_of(luck, figures):
    return luck.randrange(1, 10 ** luck.randint(1, figures))


def case_of(luck, figures, most_loads):
    """A length, two or three rests and loads that lie on the beam; now and then at its ends and its rests."""
    length = number_of(luck, figures) + 3
    rests = sorted(luck.sample(range(length + 1), luck.choice((2, 3)))) if length < 10 ** 12 else None
    while rests is None or len(set(rests)) != len(rests):
        rests = sorted(luck.randint(0, length) for again in range(luck.choice((2, 3))))
    places = [0, length] + rests

    def some_place():
        return luck.choice(places) if luck.random() < 0.4 else luck.randint(0, length)

    tolds = []
    for again in range(luck.randint(0, most_loads)):
        size = luck.choice((1, 1, 1, -1, 0)) * number_of(luck, figures)
        one, other = some_place(), some_place()
        if one == other or luck.random() < 0.4:
            tolds.append((one, size))
        else:
            tolds.append((min(one, other), max(one, other), size))
    return length, rests, tolds


def cases(seed, count, figures=1, most_loads=6):
    luck = random.Random(seed)
    return [case_of(luck, figures, most_loads) for again in range(count)]


def places_of(length, rests, tolds):
    """Places of a beam worth asking for: its ends, all marks, and fractions around and between them."""
    found = {Fraction(0), Fraction(length)}
    found.update(Fraction(mark) for mark in marks(rests, tolds))
    rows = sorted(found)
    for b, c in zip(rows, rows[1:]):
        found.update((b + (c - b) / 3, (b + c) / 2, b + (c - b) * Fraction(7, 11), c - (c - b) / 10 ** 20))
    return sorted(found)
