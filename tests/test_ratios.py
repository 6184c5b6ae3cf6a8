import inspect
import math
import unittest
from fractions import Fraction

from beamload.errors import BeamError, NoBeam, NoLoad, NoNumber, OffBeam
from beamload.ratios import fraction, minus, over, plus, times, under

SIXTY = 10 ** 59 + 7
SIXTY_OTHER = 9 * 10 ** 59 + 10 ** 30 + 3
SIX_HUNDRED = 10 ** 599 + 10 ** 300 + 9
SIX_HUNDRED_OTHER = 7 * 10 ** 599 + 12345678910111213
BEYOND = 10 ** 640 + 1
GREAT = (SIXTY, SIXTY_OTHER, SIX_HUNDRED, SIX_HUNDRED_OTHER, BEYOND)


def pair(worth):
    return (worth.numerator, worth.denominator)


def small_fractions():
    return sorted({Fraction(top, bottom) for top in range(-7, 8) for bottom in range(1, 8)})


def great_fractions():
    found = []
    for top in GREAT:
        for bottom in GREAT:
            found.append(Fraction(top, bottom))
            found.append(Fraction(-top, bottom))
    return found


class FractionCase(unittest.TestCase):
    def assert_fraction(self, answer, worth):
        self.assertIs(type(answer), tuple)
        self.assertEqual([type(part) for part in answer], [int, int])
        self.assertGreaterEqual(answer[1], 1)
        self.assertEqual(math.gcd(answer[0], answer[1]), 1)
        self.assertEqual(answer, pair(worth))


class TestInterface(unittest.TestCase):
    def test_arguments(self):
        arguments = {made: list(inspect.signature(made).parameters) for made in (fraction, plus, minus, under)}
        self.assertEqual(arguments[fraction], ["top", "bottom"])
        for made in (plus, minus, under):
            self.assertEqual(arguments[made], ["one", "other"])


class TestFraction(FractionCase):
    def test_all_small_numbers_and_signs(self):
        for top in range(-40, 41):
            for bottom in list(range(-40, 0)) + list(range(1, 41)):
                self.assert_fraction(fraction(top, bottom), Fraction(top, bottom))

    def test_the_four_mixes_of_signs(self):
        self.assertEqual(fraction(6, 4), (3, 2))
        self.assertEqual(fraction(-6, 4), (-3, 2))
        self.assertEqual(fraction(6, -4), (-3, 2))
        self.assertEqual(fraction(-6, -4), (3, 2))

    def test_nought(self):
        for bottom in (1, -1, 2, -5, SIXTY, -SIXTY, SIX_HUNDRED, -SIX_HUNDRED):
            self.assert_fraction(fraction(0, bottom), Fraction(0))
            self.assertEqual(fraction(0, bottom), (0, 1))

    def test_whole_numbers(self):
        for whole in (1, -1, 2, -17, SIXTY, -SIXTY, SIX_HUNDRED, -SIX_HUNDRED):
            self.assertEqual(fraction(whole, 1), (whole, 1))
            self.assertEqual(fraction(whole, -1), (-whole, 1))
            self.assert_fraction(fraction(12 * whole, 12), Fraction(whole))
            self.assertEqual(fraction(whole, whole), (1, 1))

    def test_a_great_common_part(self):
        for common in (2 ** 180, 3 ** 120, SIXTY, 2 ** 1900, SIX_HUNDRED):
            for top, bottom in ((2, 3), (-2, 3), (2, -3), (-2, -3), (1, 10), (10, 1), (49, 14)):
                self.assert_fraction(fraction(top * common, bottom * common), Fraction(top, bottom))

    def test_numbers_of_sixty_and_of_six_hundred_figures(self):
        self.assertEqual([len(str(number)) for number in GREAT], [60, 60, 600, 600, 641])
        for top in GREAT:
            for bottom in GREAT:
                for up in (1, -1):
                    for down in (1, -1):
                        self.assert_fraction(fraction(up * top, down * bottom), Fraction(up * top, down * bottom))

    def test_nothing_is_rounded(self):
        self.assertEqual(fraction(SIX_HUNDRED + 1, SIX_HUNDRED), (SIX_HUNDRED + 1, SIX_HUNDRED))
        self.assertEqual(fraction(2 * SIX_HUNDRED + 2, -2 * SIX_HUNDRED), (-SIX_HUNDRED - 1, SIX_HUNDRED))


class TestNoNumber(unittest.TestCase):
    def test_a_bottom_of_nought_is_refused(self):
        for top in (0, 1, -1, 12, SIXTY, -SIXTY, SIX_HUNDRED, -SIX_HUNDRED, BEYOND):
            with self.assertRaises(NoNumber) as caught:
                fraction(top, 0)
            self.assertIsInstance(caught.exception, BeamError)
            self.assertIsInstance(caught.exception, ValueError)
            self.assertNotIsInstance(caught.exception, (NoLoad, NoBeam, OffBeam))


class TestPlusAndMinus(FractionCase):
    def test_all_small_pairs(self):
        for one in small_fractions():
            for other in small_fractions():
                self.assert_fraction(plus(pair(one), pair(other)), one + other)
                self.assert_fraction(minus(pair(one), pair(other)), one - other)

    def test_known_answers(self):
        self.assertEqual(plus((1, 2), (1, 3)), (5, 6))
        self.assertEqual(minus((1, 2), (1, 3)), (1, 6))
        self.assertEqual(minus((1, 3), (1, 2)), (-1, 6))
        self.assertEqual(plus((1, 2), (1, 2)), (1, 1))
        self.assertEqual(plus((5, 1), (-7, 1)), (-2, 1))

    def test_bottoms_with_a_common_part(self):
        self.assertEqual(plus((1, 6), (1, 10)), (4, 15))
        self.assertEqual(minus((1, 6), (1, 10)), (1, 15))
        self.assertEqual(plus((5, 12), (7, 12)), (1, 1))
        self.assertEqual(minus((7, 12), (1, 12)), (1, 2))
        one, other = Fraction(1, 6 * SIXTY), Fraction(1, 10 * SIXTY)
        self.assert_fraction(plus(pair(one), pair(other)), one + other)
        self.assert_fraction(minus(pair(one), pair(other)), one - other)

    def test_what_comes_to_nought(self):
        for worth in small_fractions() + great_fractions():
            self.assertEqual(plus(pair(worth), pair(-worth)), (0, 1))
            self.assertEqual(minus(pair(worth), pair(worth)), (0, 1))

    def test_nought_changes_nothing(self):
        for worth in small_fractions() + great_fractions():
            self.assertEqual(plus(pair(worth), (0, 1)), pair(worth))
            self.assertEqual(plus((0, 1), pair(worth)), pair(worth))
            self.assertEqual(minus(pair(worth), (0, 1)), pair(worth))
            self.assertEqual(minus((0, 1), pair(worth)), pair(-worth))

    def test_numbers_of_sixty_and_of_six_hundred_figures(self):
        for one in great_fractions()[::3]:
            for other in great_fractions()[::2]:
                self.assert_fraction(plus(pair(one), pair(other)), one + other)
                self.assert_fraction(minus(pair(one), pair(other)), one - other)

    def test_a_long_row_of_sums(self):
        answer, worth = (0, 1), Fraction(0)
        for bottom in range(1, 201):
            answer, worth = plus(answer, (1, bottom)), worth + Fraction(1, bottom)
        self.assert_fraction(answer, worth)
        for bottom in range(1, 201):
            answer = minus(answer, (1, bottom))
        self.assertEqual(answer, (0, 1))


class TestTimesAndOver(FractionCase):
    def test_all_small_pairs(self):
        for one in small_fractions():
            for other in small_fractions():
                self.assert_fraction(times(pair(one), pair(other)), one * other)
                if other != 0:
                    self.assert_fraction(over(pair(one), pair(other)), one / other)

    def test_numbers_of_sixty_and_of_six_hundred_figures(self):
        for one in great_fractions()[::5]:
            for other in great_fractions()[::4]:
                self.assert_fraction(times(pair(one), pair(other)), one * other)
                self.assert_fraction(over(pair(one), pair(other)), one / other)


class TestUnder(unittest.TestCase):
    def test_all_small_pairs(self):
        for one in small_fractions():
            for other in small_fractions():
                self.assertIs(under(pair(one), pair(other)), one < other)

    def test_both_sides_of_nought(self):
        self.assertIs(under((-1, 2), (-1, 3)), True)
        self.assertIs(under((-1, 3), (-1, 2)), False)
        self.assertIs(under((-1, 2), (1, 3)), True)
        self.assertIs(under((1, 3), (-1, 2)), False)
        self.assertIs(under((0, 1), (0, 1)), False)
        self.assertIs(under((0, 1), (1, SIX_HUNDRED)), True)
        self.assertIs(under((-1, SIX_HUNDRED), (0, 1)), True)
        self.assertIs(under((0, 1), (-1, SIX_HUNDRED)), False)

    def test_very_little_apart(self):
        for great in (SIXTY, SIX_HUNDRED):
            less = (great - 1, great)
            more = (great, great + 1)
            self.assertIs(under(less, more), True)
            self.assertIs(under(more, less), False)
            self.assertIs(under((-less[0], less[1]), (-more[0], more[1])), False)
            self.assertIs(under((-more[0], more[1]), (-less[0], less[1])), True)
            self.assertIs(under(more, (1, 1)), True)
            self.assertIs(under((1, 1), more), False)
            self.assertIs(under(more, more), False)

    def test_great_pairs(self):
        for one in great_fractions():
            for other in great_fractions():
                self.assertIs(under(pair(one), pair(other)), one < other)


class TestNothingIsChanged(unittest.TestCase):
    def test_what_is_handed_in_stays_and_is_answered_alike_again(self):
        for one, other in (((1, 2), (-3, 4)), ((0, 1), (5, 6)), ((SIX_HUNDRED, SIXTY), (-SIXTY, SIX_HUNDRED))):
            kept = repr((one, other))
            for asked in (plus, minus, under):
                first = asked(one, other)
                for again in range(3):
                    self.assertEqual(asked(one, other), first)
            self.assertEqual(repr((one, other)), kept)

    def test_a_refusal_comes_again(self):
        for again in range(3):
            with self.assertRaises(NoNumber):
                fraction(SIXTY, 0)

    def test_other_questions_between_change_no_answer(self):
        before = [fraction(top, bottom) for top in range(-5, 6) for bottom in (-3, -2, 2, 3)]
        plus((1, 2), (1, 3))
        with self.assertRaises(NoNumber):
            fraction(1, 0)
        minus((1, 2), (1, 3))
        after = [fraction(top, bottom) for top in range(-5, 6) for bottom in (-3, -2, 2, 3)]
        self.assertEqual(before, after)


if __name__ == "__main__":
    unittest.main()
