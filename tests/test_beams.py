import inspect
import math
import unittest
from fractions import Fraction

from beamload.beams import Beam
from beamload.errors import BeamError, NoBeam, NoLoad, NoNumber, OffBeam
from beamload.loads import Spread, Weight
from reckoning import about_turn, all_made, borne_by, cases, pair, weighs, worth

SIXTY = 10 ** 59 + 7
SIXTY_OTHER = 9 * 10 ** 59 + 10 ** 30 + 3
BEYOND = 10 ** 70 + 1
PLACES = [Fraction(top, bottom) for top in (-5, 0, 3, 11, SIXTY) for bottom in (1, 2, 9)]


class BeamCase(unittest.TestCase):
    def assert_fractions(self, answer, reckoned):
        self.assertIs(type(answer), list)
        for part in answer:
            self.assertIs(type(part), tuple)
            self.assertEqual([type(number) for number in part], [int, int])
            self.assertGreaterEqual(part[1], 1)
            self.assertEqual(math.gcd(part[0], part[1]), 1)
        self.assertEqual(answer, [pair(part) for part in reckoned])

    def assert_bears(self, length, rests, tolds):
        answer = Beam(length, rests).bears(all_made(tolds))
        self.assert_fractions(answer, borne_by(rests, tolds))
        parts = [worth(part) for part in answer]
        self.assertEqual(sum(parts), sum(weighs(told) for told in tolds))
        for x in PLACES:
            held = sum(part * (rest - x) for rest, part in zip(rests, parts))
            self.assertEqual(held, sum(about_turn(told, x) for told in tolds))


class TestInterface(unittest.TestCase):
    def test_arguments(self):
        self.assertEqual(list(inspect.signature(Beam).parameters), ["length", "rests"])
        self.assertEqual(list(inspect.signature(Beam.bears).parameters), ["self", "loads"])
        self.assertEqual(Beam(rests=[0, 4], length=4).bears(loads=[]), [(0, 1), (0, 1)])


class TestNoBeam(unittest.TestCase):
    def test_beams(self):
        for length, rests in ((1, [0, 1]), (2, [0, 1, 2]), (9, [0, 9]), (9, [3, 4]), (9, [0, 4, 9]), (9, [7, 8, 9]),
                              (SIXTY, [0, SIXTY]), (SIXTY, [1, 2, SIXTY - 1]), (BEYOND, [0, 1, BEYOND])):
            self.assertEqual(Beam(length, rests).bears([]), [(0, 1)] * len(rests))

    def assert_refused(self, length, rests):
        with self.assertRaises(NoBeam) as caught:
            Beam(length, rests)
        self.assertIsInstance(caught.exception, BeamError)
        self.assertNotIsInstance(caught.exception, (NoNumber, NoLoad, OffBeam))

    def test_a_length_below_one(self):
        for length in (0, -1, -9, -SIXTY, -10 ** 5000):
            for rests in ([0, 1], [0, 1, 2], [0, length], [length, 0], [], [0, 0], [-2, -1], [length - 2, length]):
                self.assert_refused(length, rests)

    def test_how_many_rests(self):
        for rests in ([], [0], [4], [9], [0, 3, 6, 9], [1, 2, 3, 4], list(range(10))):
            self.assert_refused(9, rests)
        self.assert_refused(100, list(range(60)))

    def test_out_of_order(self):
        for rests in ([9, 0], [5, 4], [0, 9, 4], [4, 0, 9], [9, 4, 0], [4, 9, 0], [9, 0, 4]):
            self.assert_refused(9, rests)
        self.assert_refused(SIXTY, [SIXTY - 1, SIXTY - 2])

    def test_two_alike(self):
        for rests in ([0, 0], [4, 4], [9, 9], [0, 0, 9], [0, 9, 9], [4, 4, 4], [0, 4, 4], [4, 4, 9], [4, 9, 4]):
            self.assert_refused(9, rests)
        self.assert_refused(SIXTY, [SIXTY, SIXTY])

    def test_off_the_beam(self):
        for rests in ([-1, 9], [-1, 4, 9], [0, 10], [0, 4, 10], [-2, -1], [10, 11], [-3, -2, -1], [10, 11, 12],
                      [-1, 10], [-1, 4, 10], [4, -1], [10, 4], [4, -1, 9], [0, 10, 9]):
            self.assert_refused(9, rests)
        self.assert_refused(SIXTY, [0, SIXTY + 1])
        self.assert_refused(SIXTY, [-SIXTY, 0, SIXTY])


class TestOffBeam(unittest.TestCase):
    def test_loads_to_each_side(self):
        off = [Weight(-1, 3), Weight(10, 3), Weight(-SIXTY, 1), Weight(SIXTY, -1), Spread(-2, -1, 1), Spread(-1, 0, 1),
               Spread(-1, 5, 1), Spread(5, 10, 1), Spread(9, 10, 1), Spread(10, 12, 1), Spread(-1, 10, 1),
               Spread(-SIXTY, SIXTY, 2), Weight(-10 ** 5000, 1)]
        off += [Weight(-1, 0), Weight(10, 0), Spread(-1, 5, 0), Spread(5, 10, 0), Spread(20, 30, 0), Weight(-1, -2)]
        on = [Weight(0, 1), Weight(9, 2), Spread(0, 9, 1)]
        for rests in ([0, 9], [2, 7], [0, 4, 9], [1, 2, 3]):
            beam = Beam(9, rests)
            for load in off:
                for loads in ([load], [load] + on, on + [load], on[:1] + [load] + on[1:], [load, load]):
                    with self.assertRaises(OffBeam) as caught:
                        beam.bears(loads)
                    self.assertIsInstance(caught.exception, BeamError)
                    self.assertNotIsInstance(caught.exception, (NoNumber, NoLoad, NoBeam))

    def test_loads_up_to_the_ends_lie_on_it(self):
        for rests in ([3, 5], [3, 5, 6]):
            for load in (Weight(0, 1), Weight(9, 1), Spread(0, 9, 1), Spread(0, 1, 1), Spread(8, 9, 1)):
                self.assertEqual(len(Beam(9, rests).bears([load])), len(rests))


class TestTwoRests(BeamCase):
    def test_known_answers(self):
        beam = Beam(10, [0, 10])
        self.assertEqual(beam.bears([Weight(5, 4)]), [(2, 1), (2, 1)])
        self.assertEqual(beam.bears([Weight(3, 1)]), [(7, 10), (3, 10)])
        self.assertEqual(beam.bears([Spread(0, 5, 4)]), [(15, 1), (5, 1)])
        self.assertEqual(Beam(10, [2, 6]).bears([Weight(10, 4)]), [(-4, 1), (8, 1)])
        self.assertEqual(Beam(10, [2, 6]).bears([Weight(0, 4)]), [(6, 1), (-2, 1)])
        self.assertEqual(Beam(10, [2, 6]).bears([Weight(2, 4)]), [(4, 1), (0, 1)])
        self.assertEqual(Beam(10, [2, 6]).bears([Weight(6, -4)]), [(0, 1), (-4, 1)])
        self.assertEqual(Beam(10, [2, 6]).bears([]), [(0, 1), (0, 1)])

    def test_every_place_of_a_small_beam(self):
        for rests in ([0, 7], [0, 3], [4, 7], [2, 5]):
            for a in range(8):
                self.assert_bears(7, rests, [(a, 5)])
                for b in range(a + 1, 8):
                    self.assert_bears(7, rests, [(a, b, -3)])
                    self.assert_bears(7, rests, [(a, b, 2), (b, 4), (a, b, 2)])


class TestThreeRests(BeamCase):
    def test_known_answers(self):
        beam = Beam(16, [0, 8, 16])
        self.assertEqual(beam.bears([Spread(0, 16, 1)]), [(3, 1), (10, 1), (3, 1)])
        self.assertEqual(beam.bears([Weight(4, 32)]), [(13, 1), (22, 1), (-3, 1)])
        self.assertEqual(beam.bears([Weight(12, 32)]), [(-3, 1), (22, 1), (13, 1)])
        self.assertEqual(beam.bears([Weight(4, 16), Weight(12, 16)]), [(5, 1), (22, 1), (5, 1)])
        self.assertEqual(beam.bears([Spread(0, 8, 16)]), [(56, 1), (80, 1), (-8, 1)])
        self.assertEqual(beam.bears([]), [(0, 1), (0, 1), (0, 1)])

    def test_a_weight_at_a_rest_is_borne_by_it_alone(self):
        for rests in ([0, 4, 9], [2, 3, 7], [1, SIXTY, SIXTY_OTHER]):
            beam = Beam(rests[2] + 1, rests)
            for k in range(3):
                told = [(0, 1)] * 3
                told[k] = (-5, 1)
                self.assertEqual(beam.bears([Weight(rests[k], -5)]), told)

    def test_beyond_the_outer_rests_the_middle_one_is_lifted(self):
        beam = Beam(12, [2, 5, 10])
        self.assertEqual(beam.bears([Weight(0, 30)])[1], (-26, 1))
        self.assertEqual(beam.bears([Weight(12, 30)])[1], (-22, 1))

    def test_every_place_of_a_small_beam(self):
        for rests in ([0, 3, 7], [1, 2, 6], [2, 4, 5], [0, 1, 2], [5, 6, 7]):
            for a in range(8):
                self.assert_bears(7, rests, [(a, 5)])
                for b in range(a + 1, 8):
                    self.assert_bears(7, rests, [(a, b, -3)])
                    self.assert_bears(7, rests, [(a, b, 2), (b, 4), (a, b, 2)])

    def test_turned_about_the_rests_bear_the_same(self):
        for length, rests, tolds in cases(11, 100):
            mirrored = [(length - told[0], told[1]) if len(told) == 2 else
                        (length - told[1], length - told[0], told[2]) for told in tolds]
            turned = Beam(length, [length - rest for rest in reversed(rests)]).bears(all_made(mirrored))
            self.assertEqual(turned, list(reversed(Beam(length, rests).bears(all_made(tolds)))))


class TestManyCases(BeamCase):
    def test_small_numbers(self):
        for length, rests, tolds in cases(1, 300):
            self.assert_bears(length, rests, tolds)

    def test_numbers_of_many_figures(self):
        for length, rests, tolds in cases(2, 80, figures=60):
            self.assert_bears(length, rests, tolds)

    def test_sixty_figures_and_sixty_loads(self):
        length = 10 ** 60 - 1
        for rests in ([SIXTY, SIXTY_OTHER], [SIXTY, SIXTY_OTHER - 2, SIXTY_OTHER], [0, 1, length]):
            tolds = []
            for k in range(30):
                tolds.append((SIXTY * k // 4, (-1) ** k * (SIXTY + k)))
                tolds.append((k, SIXTY_OTHER + k * k, SIXTY_OTHER - k))
            self.assert_bears(length, rests, tolds)

    def test_somewhat_beyond_the_bounds(self):
        tolds = [(BEYOND // 3, BEYOND), (1, BEYOND - 1, -BEYOND)] * 35
        self.assert_bears(BEYOND, [1, BEYOND - 1], tolds)
        self.assert_bears(BEYOND, [1, BEYOND // 7, BEYOND - 1], tolds)

    def test_the_same_load_several_times(self):
        for rests in ([1, 8], [1, 4, 8]):
            for load in (Weight(3, 7), Spread(0, 9, 5)):
                once = Beam(9, rests).bears([load])
                self.assertEqual(Beam(9, rests).bears([load] * 3), [pair(3 * worth(part)) for part in once])

    def test_two_lists_together_do_as_both(self):
        for length, rests, tolds in cases(3, 60, figures=4, most_loads=8) + cases(4, 20, figures=60):
            beam = Beam(length, rests)
            loads = all_made(tolds)
            for cut in range(len(loads) + 1):
                one, other = beam.bears(loads[:cut]), beam.bears(loads[cut:])
                both = [worth(first) + worth(second) for first, second in zip(one, other)]
                self.assert_fractions(beam.bears(loads), both)


class TestNothingIsChanged(unittest.TestCase):
    def test_the_list_of_rests(self):
        loads = [Weight(3, 7), Spread(1, 8, 2)]
        for rests in ([0, 9], [0, 4, 9]):
            told = list(rests)
            beam = Beam(9, told)
            first = beam.bears(loads)
            self.assertEqual(told, rests)
            told[1] = 2
            self.assertEqual(beam.bears(loads), first)
            told.clear()
            self.assertEqual(beam.bears(loads), first)
            told.extend([5, 5, 5, 5])
            self.assertEqual(beam.bears(loads), first)
            with self.assertRaises(OffBeam):
                beam.bears([Weight(10, 1)])

    def test_the_list_of_loads(self):
        for rests in ([0, 9], [0, 4, 9]):
            beam = Beam(9, rests)
            weight, spread = Weight(3, 7), Spread(1, 8, 2)
            loads = [spread, weight, spread]
            first = beam.bears(loads)
            self.assertEqual([id(load) for load in loads], [id(spread), id(weight), id(spread)])
            kept = list(first)
            loads.clear()
            self.assertEqual(first, kept)
            self.assertEqual(beam.bears(loads), [(0, 1)] * len(rests))
            self.assertEqual(beam.bears([spread, weight, spread]), kept)

    def test_the_list_that_is_answered(self):
        for rests in ([0, 9], [0, 4, 9]):
            for loads in ([], [Weight(3, 7), Spread(1, 8, 2)]):
                beam = Beam(9, rests)
                first = beam.bears(loads)
                kept = list(first)
                first[0] = (99, 1)
                first.append((1, 2))
                second = beam.bears(loads)
                self.assertEqual(second, kept)
                second.clear()
                self.assertEqual(beam.bears(loads), kept)
                self.assertEqual(Beam(9, rests).bears(loads), kept)

    def test_two_beams_of_one_list(self):
        told = [0, 4]
        one = Beam(9, told)
        told.append(9)
        other = Beam(9, told)
        self.assertEqual(one.bears([Weight(4, 1)]), [(0, 1), (1, 1)])
        self.assertEqual(other.bears([Weight(4, 1)]), [(0, 1), (1, 1), (0, 1)])

    def test_a_refusal_changes_nothing(self):
        beam = Beam(9, [0, 4, 9])
        loads = [Weight(3, 7), Weight(10, 1)]
        first = beam.bears(loads[:1])
        for again in range(2):
            with self.assertRaises(OffBeam):
                beam.bears(loads)
        self.assertEqual(len(loads), 2)
        self.assertEqual(beam.bears(loads[:1]), first)


if __name__ == "__main__":
    unittest.main()
