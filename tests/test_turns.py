import inspect
import math
import random
import unittest
from fractions import Fraction

from beamload.beams import Beam
from beamload.errors import BeamError, NoBeam, NoLoad, NoNumber, OffBeam
from beamload.loads import Spread, Weight
from beamload.turns import greatest, turning
from reckoning import (all_made, bent_off, borne_by, cases, most_turned, pair, places_of, turned_from_left,
                       turned_from_right, worth)

SIXTY = 10 ** 59 + 7
SIXTY_OTHER = 9 * 10 ** 59 + 10 ** 30 + 3
SIX_HUNDRED = 10 ** 599 + 10 ** 300 + 9
BEYOND = 10 ** 640 + 1
LITTLE = Fraction(1, SIX_HUNDRED)


class TurnCase(unittest.TestCase):
    def assert_fraction(self, answer, reckoned):
        self.assertIs(type(answer), tuple)
        self.assertEqual([type(part) for part in answer], [int, int])
        self.assertGreaterEqual(answer[1], 1)
        self.assertEqual(math.gcd(answer[0], answer[1]), 1)
        self.assertEqual(answer, pair(reckoned))

    def assert_turning(self, length, rests, tolds, places):
        beam, loads = Beam(length, rests), all_made(tolds)
        borne = [worth(part) for part in beam.bears(loads)]
        for x in places:
            answer = turning(beam, loads, pair(x))
            self.assert_fraction(answer, turned_from_left(rests, borne, tolds, x))
            self.assert_fraction(answer, turned_from_right(rests, borne, tolds, x))

    def assert_greatest(self, length, rests, tolds, start, end):
        answer = greatest(Beam(length, rests), all_made(tolds), pair(start), pair(end))
        self.assertIs(type(answer), tuple)
        self.assertEqual(len(answer), 2)
        place, most = most_turned(rests, tolds, start, end)
        self.assert_fraction(answer[0], place)
        self.assert_fraction(answer[1], most)

    def assert_none_greater(self, length, rests, tolds, start, end, places):
        beam, loads = Beam(length, rests), all_made(tolds)
        place, most = [worth(part) for part in greatest(beam, loads, pair(start), pair(end))]
        self.assertTrue(start <= place <= end)
        self.assertEqual(worth(turning(beam, loads, pair(place))), most)
        borne = borne_by(rests, tolds)
        for x in places + [place - LITTLE, place + LITTLE, start, end]:
            if start <= x <= end:
                here = turned_from_left(rests, borne, tolds, x)
                self.assertLessEqual(here, most)
                if x < place:
                    self.assertLess(here, most)

    def assert_off(self, asked, *arguments):
        with self.assertRaises(OffBeam) as caught:
            asked(*arguments)
        self.assertIsInstance(caught.exception, BeamError)
        self.assertNotIsInstance(caught.exception, (NoNumber, NoLoad, NoBeam))


class TestInterface(unittest.TestCase):
    def test_arguments(self):
        self.assertEqual(list(inspect.signature(turning).parameters), ["beam", "loads", "x"])
        self.assertEqual(list(inspect.signature(greatest).parameters), ["beam", "loads", "start", "end"])
        beam = Beam(4, [0, 4])
        self.assertEqual(turning(x=(1, 1), loads=[], beam=beam), (0, 1))
        self.assertEqual(greatest(end=(2, 1), start=(1, 1), loads=[], beam=beam), ((1, 1), (0, 1)))


class TestOffBeam(TurnCase):
    def test_loads(self):
        off = [Weight(-1, 3), Weight(10, 3), Spread(-2, -1, 1), Spread(-1, 5, 1), Spread(5, 10, 1), Spread(10, 12, 1),
               Spread(-1, 10, 1), Weight(-1, 0), Weight(10, 0), Spread(-1, 5, 0), Spread(5, 10, 0), Weight(SIXTY, -1)]
        on = [Weight(0, 1), Weight(9, 2), Spread(0, 9, 1)]
        for rests in ([0, 9], [2, 7], [0, 4, 9]):
            beam = Beam(9, rests)
            for load in off:
                for loads in ([load], [load] + on, on + [load], on[:1] + [load] + on[1:]):
                    # At 0 and at the length the loads turn nothing, and still the list is refused.
                    for x in ((0, 1), (9, 1), (7, 2)):
                        self.assert_off(turning, beam, loads, x)
                        self.assert_off(greatest, beam, loads, x, x)
                    self.assert_off(greatest, beam, loads, (0, 1), (9, 1))

    def test_places(self):
        little = pair(LITTLE)
        for rests in ([0, 9], [2, 7], [0, 4, 9]):
            beam = Beam(9, rests)
            for loads in ([], [Weight(3, 1), Spread(2, 5, 1)]):
                for x in ((-1, 1), (10, 1), (-1, 2), (19, 2), (-little[0], little[1]), pair(9 + LITTLE),
                          (-BEYOND, 1), (BEYOND, 1), (-10 ** 5000, 1)):
                    self.assert_off(turning, beam, loads, x)
                    self.assert_off(greatest, beam, loads, x, x)

    def test_stretches(self):
        for rests in ([0, 9], [2, 7], [0, 4, 9]):
            beam = Beam(9, rests)
            for loads in ([], [Weight(3, 1), Spread(2, 5, 1)]):
                for start, end in ((-1, 5), (-LITTLE, 9), (0, 10), (0, 9 + LITTLE), (-1, 10), (5, 4), (9, 0),
                                   (5, 5 - LITTLE), (-2, -1), (10, 11), (10, 5), (5, -1), (11, -1),
                                   (Fraction(1, 2), Fraction(1, 3))):
                    self.assert_off(greatest, beam, loads, pair(start), pair(end))

    def test_the_ends_lie_on_the_beam(self):
        for rests in ([0, 9], [2, 7], [0, 4, 9]):
            beam = Beam(9, rests)
            for x in ((0, 1), (9, 1), pair(LITTLE), pair(9 - LITTLE)):
                self.assertEqual(turning(beam, [], x), (0, 1))
                self.assertEqual(greatest(beam, [], x, x), (x, (0, 1)))
                self.assertEqual(greatest(beam, [], x, (9, 1)), (x, (0, 1)))


class TestTurning(TurnCase):
    def test_known_answers(self):
        beam = Beam(10, [0, 10])
        self.assertEqual(turning(beam, [Weight(5, 4)], (5, 1)), (10, 1))
        self.assertEqual(turning(beam, [Weight(5, 4)], (1, 3)), (2, 3))
        self.assertEqual(turning(Beam(8, [0, 8]), [Spread(0, 8, 1)], (4, 1)), (8, 1))
        self.assertEqual(turning(Beam(8, [0, 8]), [Spread(0, 8, 1)], (1, 2)), (15, 8))
        self.assertEqual(turning(Beam(8, [0, 4]), [Weight(8, 3)], (4, 1)), (-12, 1))
        self.assertEqual(turning(Beam(8, [0, 4]), [Weight(8, -3)], (6, 1)), (6, 1))
        self.assertEqual(turning(Beam(16, [0, 8, 16]), [Spread(0, 16, 1)], (8, 1)), (-8, 1))
        self.assertEqual(turning(Beam(16, [0, 8, 16]), [Spread(0, 16, 1)], (3, 1)), (9, 2))

    def test_no_loads(self):
        for rests in ([0, 9], [2, 7], [0, 4, 9]):
            for x in ((0, 1), (2, 1), (7, 3), (4, 1), (9, 1)):
                self.assertEqual(turning(Beam(9, rests), [], x), (0, 1))

    def test_nought_at_both_ends(self):
        for length, rests, tolds in cases(21, 40, figures=3):
            beam, loads = Beam(length, rests), all_made(tolds)
            self.assertEqual(turning(beam, loads, (0, 1)), (0, 1))
            self.assertEqual(turning(beam, loads, (length, 1)), (0, 1))

    def test_small_numbers(self):
        for length, rests, tolds in cases(22, 150):
            self.assert_turning(length, rests, tolds, places_of(length, rests, tolds))

    def test_numbers_of_many_figures(self):
        for length, rests, tolds in cases(23, 30, figures=60):
            self.assert_turning(length, rests, tolds, places_of(length, rests, tolds))

    def test_places_of_many_figures(self):
        for length, rests, tolds in cases(24, 6, most_loads=5) + cases(25, 4, figures=60, most_loads=5):
            near = [rest + step for rest in rests for step in (-LITTLE, LITTLE) if 0 <= rest + step <= length]
            self.assert_turning(length, rests, tolds, near + [length * Fraction(SIX_HUNDRED - 1, SIX_HUNDRED + 1)])

    def test_somewhat_beyond_the_bounds(self):
        length = 10 ** 70 + 1
        tolds = [(length // 3, length), (1, length - 1, -length)] * 35
        for rests in ([1, length - 1], [1, length // 7, length - 1]):
            self.assert_turning(length, rests, tolds, [Fraction(BEYOND, BEYOND - 2), Fraction(length, 3)])

    def test_the_beam_is_not_bent_off_its_rests(self):
        for length, rests, tolds in cases(26, 100) + cases(27, 10, figures=60):
            if len(rests) == 3:
                beam, loads = Beam(length, rests), all_made(tolds)
                self.assertEqual(bent_off(rests, tolds, lambda x: worth(turning(beam, loads, pair(x)))), 0)

    def test_two_lists_together_do_as_both(self):
        for length, rests, tolds in cases(28, 40, most_loads=8) + cases(29, 8, figures=60):
            beam, loads = Beam(length, rests), all_made(tolds)
            for cut in (0, 1, len(loads) // 2, len(loads)):
                for x in places_of(length, rests, tolds)[::5]:
                    one = worth(turning(beam, loads[:cut], pair(x)))
                    other = worth(turning(beam, loads[cut:], pair(x)))
                    self.assert_fraction(turning(beam, loads, pair(x)), one + other)


class TestGreatest(TurnCase):
    def test_at_a_weight(self):
        beam = Beam(10, [0, 10])
        self.assertEqual(greatest(beam, [Weight(3, 10)], (0, 1), (10, 1)), ((3, 1), (21, 1)))
        self.assertEqual(greatest(beam, [Weight(3, 10)], (3, 1), (10, 1)), ((3, 1), (21, 1)))
        self.assertEqual(greatest(beam, [Weight(3, 10)], (0, 1), (3, 1)), ((3, 1), (21, 1)))

    def test_at_an_end_of_the_stretch(self):
        beam = Beam(10, [0, 10])
        self.assertEqual(greatest(beam, [Weight(3, 10)], (0, 1), (5, 2)), ((5, 2), (35, 2)))
        self.assertEqual(greatest(beam, [Weight(3, 10)], (7, 2), (10, 1)), ((7, 2), (39, 2)))
        self.assertEqual(greatest(Beam(8, [0, 8]), [Spread(0, 8, 1)], (1, 1), (3, 1)), ((3, 1), (15, 2)))
        self.assertEqual(greatest(Beam(8, [0, 8]), [Spread(0, 8, 1)], (5, 1), (7, 1)), ((5, 1), (15, 2)))

    def test_at_a_rest(self):
        self.assertEqual(greatest(Beam(8, [0, 4]), [Weight(8, -3)], (0, 1), (8, 1)), ((4, 1), (12, 1)))
        self.assertEqual(greatest(Beam(16, [0, 8, 16]), [Spread(0, 16, -1)], (0, 1), (16, 1)), ((8, 1), (8, 1)))

    def test_within_a_spread(self):
        self.assertEqual(greatest(Beam(8, [0, 8]), [Spread(0, 8, 1)], (0, 1), (8, 1)), ((4, 1), (8, 1)))
        self.assertEqual(greatest(Beam(7, [0, 7]), [Spread(0, 7, 8)], (0, 1), (7, 1)), ((7, 2), (49, 1)))
        self.assertEqual(greatest(Beam(4, [0, 4]), [Spread(0, 2, 1)], (0, 1), (4, 1)), ((3, 2), (9, 8)))
        self.assertEqual(greatest(Beam(4, [0, 4]), [Spread(0, 2, 1)], (0, 1), (3, 2)), ((3, 2), (9, 8)))
        self.assertEqual(greatest(Beam(4, [0, 4]), [Spread(0, 2, 1)], (3, 2), (4, 1)), ((3, 2), (9, 8)))
        # Two spreads together bend the curve as one of both does; one that lifts takes some of it away.
        loads = [Spread(0, 7, 11), Spread(0, 7, -3)]
        self.assertEqual(greatest(Beam(7, [0, 7]), loads, (0, 1), (7, 1)), ((7, 2), (49, 1)))

    def test_a_curve_that_is_bent_up_has_no_top(self):
        beam = Beam(8, [0, 8])
        self.assertEqual(greatest(beam, [Spread(0, 8, -1)], (0, 1), (8, 1)), ((0, 1), (0, 1)))
        self.assertEqual(greatest(beam, [Spread(0, 8, -1)], (1, 1), (5, 1)), ((1, 1), (-7, 2)))
        self.assertEqual(greatest(beam, [Spread(0, 8, -1)], (3, 1), (7, 1)), ((7, 1), (-7, 2)))

    def test_all_below_nought(self):
        beam = Beam(8, [0, 4])
        self.assertEqual(greatest(beam, [Weight(8, 3)], (1, 1), (5, 1)), ((1, 1), (-3, 1)))
        self.assertEqual(greatest(beam, [Weight(8, 3)], (3, 1), (15, 2)), ((15, 2), (-3, 2)))
        self.assertEqual(greatest(Beam(4, [1, 3]), [Spread(0, 4, 2)], (1, 2), (7, 2)), ((2, 1), (0, 1)))
        loads = [Spread(0, 4, 2), Weight(0, 1), Weight(4, 1)]
        self.assertEqual(greatest(Beam(4, [1, 3]), loads, (1, 2), (7, 2)), ((1, 2), (-3, 4)))
        self.assertEqual(greatest(Beam(4, [1, 3]), loads, (3, 4), (7, 3)), ((2, 1), (-1, 1)))

    def test_all_alike(self):
        for rests in ([0, 9], [2, 7], [0, 4, 9]):
            beam = Beam(9, rests)
            for loads in ([], [Weight(3, 0), Spread(2, 5, 0)], [Weight(3, 5), Weight(3, -5)],
                          [Spread(1, 8, 2), Spread(1, 8, -2)], [Weight(rests[1], 4)]):
                self.assertEqual(greatest(beam, loads, (0, 1), (9, 1)), ((0, 1), (0, 1)))
                self.assertEqual(greatest(beam, loads, (10, 3), (9, 1)), ((10, 3), (0, 1)))
        # Between two like weights the inner turning is the same everywhere.
        beam, loads = Beam(9, [0, 9]), [Weight(2, 5), Weight(7, 5)]
        self.assertEqual(greatest(beam, loads, (0, 1), (9, 1)), ((2, 1), (10, 1)))
        self.assertEqual(greatest(beam, loads, (5, 2), (9, 1)), ((5, 2), (10, 1)))
        self.assertEqual(greatest(beam, loads, (5, 2), (13, 2)), ((5, 2), (10, 1)))

    def test_alike_from_both_ends(self):
        beam = Beam(16, [0, 8, 16])
        loads = [Spread(0, 16, 1)]
        self.assertEqual(greatest(beam, loads, (0, 1), (16, 1)), ((3, 1), (9, 2)))
        self.assertEqual(greatest(beam, loads, (3, 1), (13, 1)), ((3, 1), (9, 2)))
        self.assertEqual(greatest(beam, loads, (4, 1), (16, 1)), ((13, 1), (9, 2)))
        self.assertEqual(greatest(beam, loads, (5, 1), (11, 1)), ((5, 1), (5, 2)))
        self.assertEqual(greatest(beam, [Weight(4, 16), Weight(12, 16)], (0, 1), (16, 1)), ((4, 1), (20, 1)))
        for length, rests, tolds in cases(30, 60) + cases(30, 10, figures=60):
            mirrored = [(length - told[0], told[1]) if len(told) == 2 else
                        (length - told[1], length - told[0], told[2]) for told in tolds]
            outer = min(rests[0], (length - 1) // 2)
            for even in [[outer, length - outer]] + [[outer, length // 2, length - outer]] * (length % 2 == 0):
                self.assert_greatest(length, even, tolds + mirrored, Fraction(0), Fraction(length))
                place = greatest(Beam(length, even), all_made(tolds + mirrored), (0, 1), (length, 1))[0]
                self.assertLessEqual(worth(place), Fraction(length, 2))

    def test_a_stretch_of_one_place(self):
        for length, rests, tolds in cases(31, 20):
            beam, loads = Beam(length, rests), all_made(tolds)
            for x in places_of(length, rests, tolds):
                told = turning(beam, loads, pair(x))
                self.assertEqual(greatest(beam, loads, pair(x), pair(x)), (pair(x), told))

    def test_every_stretch_of_small_beams(self):
        for length, rests, tolds in cases(32, 25, most_loads=4):
            places = places_of(length, rests, tolds)[::3]
            for k, start in enumerate(places):
                for end in places[k:]:
                    self.assert_greatest(length, rests, tolds, start, end)

    def test_the_whole_beam(self):
        for length, rests, tolds in cases(33, 300) + cases(34, 40, figures=60):
            self.assert_greatest(length, rests, tolds, Fraction(0), Fraction(length))

    def test_no_place_is_greater_and_none_left_as_great(self):
        for length, rests, tolds in cases(35, 60) + cases(36, 15, figures=60):
            places = places_of(length, rests, tolds)
            for start, end in ((places[0], places[-1]), (places[1], places[-2]), (places[len(places) // 2], places[-1])):
                self.assert_none_greater(length, rests, tolds, start, end, places)

    def test_stretches_of_many_figures(self):
        luck = random.Random(37)
        for length, rests, tolds in cases(38, 6, figures=60, most_loads=5) + cases(39, 6, most_loads=5):
            one, other = sorted(length * Fraction(luck.randrange(SIX_HUNDRED), SIX_HUNDRED) for again in range(2))
            self.assert_greatest(length, rests, tolds, one, other)
            self.assert_greatest(length, rests, tolds, LITTLE, length - LITTLE)

    def test_as_much_as_there_may_be(self):
        length = 10 ** 60 - 1
        luck = random.Random(40)
        tolds = []
        for again in range(60):
            start, end = sorted(luck.sample((luck.randrange(length), luck.randrange(length)), 2))
            tolds.append((start, end + 1, luck.choice((1, -1)) * luck.randrange(10 ** 60)))
        for rests in ([SIXTY, SIXTY_OTHER], [SIXTY, 5 * SIXTY, SIXTY_OTHER]):
            self.assert_greatest(length, rests, tolds, Fraction(0), Fraction(length))
            self.assert_greatest(length, rests, tolds, LITTLE, length - Fraction(1, 10 ** 530))


class TestNothingIsChanged(TurnCase):
    def ask(self, beam, loads):
        return turning(beam, loads, (7, 2)), greatest(beam, loads, (1, 3), (9, 1)), beam.bears(loads)

    def test_lists_handed_in(self):
        weight, spread = Weight(3, 7), Spread(1, 8, 2)
        for rests in ([0, 9], [0, 4, 9]):
            told, loads = list(rests), [spread, weight, spread]
            beam = Beam(9, told)
            first = self.ask(beam, loads)
            self.assertEqual(told, rests)
            self.assertEqual([id(load) for load in loads], [id(spread), id(weight), id(spread)])
            self.assertEqual(self.ask(beam, loads), first)
            told.clear()
            self.assertEqual(self.ask(beam, loads), first)
            loads.append(Weight(4, 100))
            self.assertNotEqual(self.ask(beam, loads), first)
            loads.pop()
            self.assertEqual(self.ask(beam, loads), first)

    def test_the_list_that_bears_answers(self):
        beam, loads = Beam(9, [0, 4, 9]), [Weight(3, 7), Spread(1, 8, 2)]
        first = self.ask(beam, loads)
        for again in range(2):
            borne = beam.bears(loads)
            borne[0] = (99, 1)
            borne.pop()
            self.assertEqual(self.ask(beam, loads), first)

    def test_refusals_between(self):
        beam, loads = Beam(9, [0, 4, 9]), [Weight(3, 7), Spread(1, 8, 2)]
        first = self.ask(beam, loads)
        for again in range(2):
            self.assert_off(turning, beam, loads, (-1, 1))
            self.assert_off(turning, beam, loads + [Weight(10, 1)], (1, 1))
            self.assert_off(greatest, beam, loads, (2, 1), (1, 1))
            self.assertEqual(self.ask(beam, loads), first)


if __name__ == "__main__":
    unittest.main()
