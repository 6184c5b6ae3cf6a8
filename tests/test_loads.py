import inspect
import math
import unittest
from fractions import Fraction

from beamload.errors import BeamError, NoBeam, NoLoad, NoNumber, OffBeam
from beamload.loads import Load, Spread, Weight
from reckoning import about_turn, left_turn, made, pair, right_turn, weighs

SIXTY = 10 ** 59 + 7
SIXTY_OTHER = 9 * 10 ** 59 + 10 ** 30 + 3
SIX_HUNDRED = 10 ** 599 + 10 ** 300 + 9
BEYOND = 10 ** 640 + 1


def small_loads():
    weights = [(place, size) for place in (-3, -1, 0, 2, 5) for size in (-4, -1, 0, 1, 3)]
    ranges = ((-5, -2), (-3, 0), (-2, 3), (0, 1), (0, 4), (2, 5), (3, 10))
    return weights + [(start, end, each) for start, end in ranges for each in (-3, -1, 0, 1, 2)]


def great_loads():
    return [
        (SIXTY, SIXTY_OTHER), (-SIXTY, -SIXTY_OTHER), (SIXTY, 0), (0, SIXTY),
        (SIXTY, SIXTY_OTHER, SIXTY), (-SIXTY_OTHER, SIXTY, -SIXTY_OTHER), (-SIXTY_OTHER, -SIXTY, 3),
        (SIXTY, SIXTY + 1, SIXTY_OTHER), (0, SIXTY, 0),
    ]


def great_places():
    near = [Fraction(whole) for whole in (0, SIXTY, -SIXTY, SIXTY_OTHER, -SIXTY_OTHER, SIXTY + 1)]
    little = Fraction(1, SIX_HUNDRED)
    wide = [Fraction(SIX_HUNDRED, SIX_HUNDRED - 2), Fraction(-SIX_HUNDRED, 7), Fraction(BEYOND, SIX_HUNDRED)]
    return wide + [x + step for x in near for step in (-little, 0, little, Fraction(1, 2))]


class LoadCase(unittest.TestCase):
    def assert_fraction(self, answer, reckoned):
        self.assertIs(type(answer), tuple)
        self.assertEqual([type(part) for part in answer], [int, int])
        self.assertGreaterEqual(answer[1], 1)
        self.assertEqual(math.gcd(answer[0], answer[1]), 1)
        self.assertEqual(answer, pair(reckoned))

    def assert_turns(self, told, x):
        load = made(told)
        self.assert_fraction(load.from_left(pair(x)), left_turn(told, x))
        self.assert_fraction(load.from_right(pair(x)), right_turn(told, x))
        self.assert_fraction(load.about(pair(x)), about_turn(told, x))


class TestInterface(unittest.TestCase):
    def test_kinds(self):
        self.assertTrue(issubclass(Weight, Load))
        self.assertTrue(issubclass(Spread, Load))
        self.assertFalse(issubclass(Weight, Spread))
        self.assertFalse(issubclass(Spread, Weight))
        self.assertIsNot(Weight, Spread)
        self.assertIsInstance(Weight(1, 2), Load)
        self.assertIsInstance(Spread(1, 2, 3), Load)
        self.assertFalse(issubclass(Load, (Weight, Spread)))

    def test_arguments(self):
        self.assertEqual(list(inspect.signature(Weight).parameters), ["place", "size"])
        self.assertEqual(list(inspect.signature(Spread).parameters), ["start", "end", "each"])
        for kind in (Weight, Spread):
            self.assertEqual(list(inspect.signature(kind.total).parameters), ["self"])
            for method in (kind.from_left, kind.from_right, kind.about):
                self.assertEqual(list(inspect.signature(method).parameters), ["self", "x"])

    def test_by_the_names_of_the_arguments(self):
        self.assertEqual(Weight(size=7, place=2).from_left(x=(3, 1)), (7, 1))
        self.assertEqual(Spread(each=4, end=3, start=1).total(), 8)


class TestNoLoad(unittest.TestCase):
    def test_an_end_that_is_not_greater_is_refused(self):
        for start, end in ((0, 0), (5, 5), (-5, -5), (1, 0), (0, -1), (7, 3), (-3, -7), (SIXTY, SIXTY),
                           (SIXTY, SIXTY - 1), (-SIXTY, -SIXTY_OTHER), (BEYOND, BEYOND), (10 ** 5000, 10 ** 5000)):
            for each in (-2, 0, 1, SIXTY):
                with self.assertRaises(NoLoad) as caught:
                    Spread(start, end, each)
                self.assertIsInstance(caught.exception, BeamError)
                self.assertNotIsInstance(caught.exception, (NoNumber, NoBeam, OffBeam))

    def test_whatever_else_is_made(self):
        for told in small_loads() + great_loads():
            made(told)
        self.assertEqual(Spread(BEYOND, BEYOND + 1, BEYOND).total(), BEYOND)
        self.assertEqual(Spread(-1, 0, 1).total(), 1)


class TestTotal(unittest.TestCase):
    def test_known_answers(self):
        self.assertEqual(Weight(-4, 7).total(), 7)
        self.assertEqual(Weight(9, 0).total(), 0)
        self.assertEqual(Weight(9, -5).total(), -5)
        self.assertEqual(Spread(2, 6, 3).total(), 12)
        self.assertEqual(Spread(-6, -2, -3).total(), -12)
        self.assertEqual(Spread(-6, 2, 0).total(), 0)

    def test_a_whole_number(self):
        for told in small_loads() + great_loads():
            total = made(told).total()
            self.assertIs(type(total), int)
            self.assertEqual(total, weighs(told))


class TestTurns(LoadCase):
    def test_known_answers_of_a_weight(self):
        load = Weight(2, 6)
        self.assertEqual(load.from_left((5, 1)), (18, 1))
        self.assertEqual(load.from_left((9, 4)), (3, 2))
        self.assertEqual(load.from_left((2, 1)), (0, 1))
        self.assertEqual(load.from_left((1, 1)), (0, 1))
        self.assertEqual(load.from_right((5, 1)), (0, 1))
        self.assertEqual(load.from_right((2, 1)), (0, 1))
        self.assertEqual(load.from_right((-1, 1)), (18, 1))
        self.assertEqual(load.from_right((5, 3)), (2, 1))
        self.assertEqual(load.about((5, 1)), (-18, 1))
        self.assertEqual(load.about((-1, 1)), (18, 1))

    def test_known_answers_of_a_spread(self):
        load = Spread(2, 6, 3)
        self.assertEqual(load.from_left((1, 1)), (0, 1))
        self.assertEqual(load.from_left((2, 1)), (0, 1))
        self.assertEqual(load.from_left((3, 1)), (3, 2))
        self.assertEqual(load.from_left((5, 2)), (3, 8))
        self.assertEqual(load.from_left((6, 1)), (24, 1))
        self.assertEqual(load.from_left((10, 1)), (72, 1))
        self.assertEqual(load.from_right((10, 1)), (0, 1))
        self.assertEqual(load.from_right((6, 1)), (0, 1))
        self.assertEqual(load.from_right((5, 1)), (3, 2))
        self.assertEqual(load.from_right((2, 1)), (24, 1))
        self.assertEqual(load.from_right((0, 1)), (48, 1))
        self.assertEqual(load.about((4, 1)), (0, 1))
        self.assertEqual(load.about((3, 1)), (12, 1))
        self.assertEqual(load.about((5, 1)), (-12, 1))

    def test_small_loads_about_many_places(self):
        places = sorted({Fraction(top, bottom) for bottom in (1, 2, 3, 7) for top in range(-7 * bottom, 12 * bottom)})
        for told in small_loads():
            for x in places:
                self.assert_turns(told, x)

    def test_places_of_many_figures(self):
        for told in great_loads() + small_loads()[::4]:
            for x in great_places():
                self.assert_turns(told, x)

    def test_very_near_the_edges(self):
        for told in ((3, 5), (-3, -5), (2, 6, 3), (-6, -2, 1)):
            for edge in told[:-1]:
                for step in (Fraction(1, SIX_HUNDRED), -Fraction(1, SIX_HUNDRED)):
                    self.assert_turns(told, edge + step)

    def test_about_is_the_total_times_the_arm_of_its_middle(self):
        for told in small_loads() + great_loads():
            middle = Fraction(told[0]) if len(told) == 2 else Fraction(told[0] + told[1], 2)
            for x in great_places()[::3] + [middle, Fraction(1, 3)]:
                self.assert_fraction(made(told).about(pair(x)), weighs(told) * (middle - x))

    def test_left_and_right_are_alike_when_turned_about(self):
        for told in small_loads():
            mirrored = (-told[0], told[1]) if len(told) == 2 else (-told[1], -told[0], told[2])
            for top in range(-24, 40):
                x = Fraction(top, 4)
                self.assertEqual(made(told).from_left(pair(x)), made(mirrored).from_right(pair(-x)))


class TestNothingIsChanged(unittest.TestCase):
    def test_the_same_answer_again(self):
        for told in small_loads() + great_loads():
            load = made(told)
            x = (5, 3)
            first = (load.total(), load.from_left(x), load.from_right(x), load.about(x))
            load.about((-SIXTY, 7))
            load.from_left((SIXTY, 7))
            for again in range(2):
                self.assertEqual((load.total(), load.from_left(x), load.from_right(x), load.about(x)), first)
            self.assertEqual(x, (5, 3))


if __name__ == "__main__":
    unittest.main()
