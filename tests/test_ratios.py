"""Points 2 and 5: whole numbers and ratios."""

import unittest
from fractions import Fraction

from farshells.errors import NoRatio
from farshells.ratios import (
    is_less, is_ratio, is_whole, ratio_of, ratio_over, ratio_plus, ratio_times, whole_up,
)
from samples import anything, texts_of

SIXTY = 10 ** 60 - 1
NUMBERS = (
    0, 1, -1, 2, -2, 3, 4, -6, 9, 10, 12, -15, 35, 36, 10 ** 59, -10 ** 59, SIXTY, -SIXTY, SIXTY - 1,
    2 ** 190, -3 ** 120, 6 ** 70, int("1234567890" * 6), -int("9876543210" * 6),
)
RATIOS = tuple(
    (Fraction(top, bottom).numerator, Fraction(top, bottom).denominator)
    for top in NUMBERS for bottom in (1, 2, 3, 12, 10 ** 59, SIXTY)
)


def pair_of(fraction):
    return fraction.numerator, fraction.denominator


class Kinds(unittest.TestCase):
    def test_whole_numbers(self):
        for number in NUMBERS + (10 ** 400, -10 ** 400):
            self.assertIs(is_whole(number), True)

    def test_truths_are_no_whole_numbers(self):
        self.assertIs(is_whole(True), False)
        self.assertIs(is_whole(False), False)

    def test_nothing_else_is_a_whole_number(self):
        for thing in anything():
            with self.subTest(repr(thing)):
                self.assertIs(is_whole(thing), type(thing) is int)

    def test_ratios(self):
        for thing in ((0, 1), (1, 1), (-1, 1), (1, 2), (-3, 2), (35, 36), (SIXTY, 1), (-SIXTY, 10 ** 59), (1, SIXTY)):
            with self.subTest(thing):
                self.assertIs(is_ratio(thing), True)

    def test_what_was_told_is_a_ratio_whatever_its_size(self):
        large = ratio_times((SIXTY, 10 ** 59), (SIXTY, 10 ** 59))
        self.assertGreater(large[0], 10 ** 100)
        self.assertIs(is_ratio(large), True)

    def test_not_in_lowest_terms(self):
        for thing in ((2, 2), (2, 4), (-2, 4), (0, 2), (0, SIXTY), (6, 3), (-9, 6), (SIXTY, SIXTY), (10 ** 59, 5)):
            with self.subTest(thing):
                self.assertIs(is_ratio(thing), False)

    def test_a_bottom_below_one(self):
        for thing in ((1, 0), (0, 0), (-1, 0), (1, -1), (0, -1), (-1, -2), (3, -SIXTY)):
            with self.subTest(thing):
                self.assertIs(is_ratio(thing), False)

    def test_no_tuple_of_two_whole_numbers(self):
        things = (
            [0, 1], [1, 2], (), (1,), (1, 2, 3), (0, 1, 1), (True, 1), (False, 1), (1, True), (True, True),
            (None, 1), (1, None), ("1", 1), (1, "1"), ("1", "2"), ((1,), 1), (1, [2]), {1: 2, 3: 4}, "12", b"12",
        )
        for thing in things:
            with self.subTest(repr(thing)):
                self.assertIs(is_ratio(thing), False)

    def test_of_anything(self):
        for thing in anything():
            with self.subTest(repr(thing)):
                self.assertIs(is_ratio(thing), False)

    def test_what_is_asked_about_stays(self):
        things = anything()
        before = texts_of(things)
        for thing in things:
            is_whole(thing)
            is_ratio(thing)
        self.assertEqual(texts_of(things), before)


class Sums(unittest.TestCase):
    def test_lowest_terms_and_the_bottom_from_one_on(self):
        for top in NUMBERS:
            for bottom in NUMBERS:
                if bottom != 0:
                    with self.subTest(top=top, bottom=bottom):
                        told = ratio_of(top, bottom)
                        self.assertIs(type(told), tuple)
                        self.assertEqual(told, pair_of(Fraction(top, bottom)))
                        self.assertIs(is_ratio(told), True)

    def test_some_by_hand(self):
        self.assertEqual(ratio_of(6, 4), (3, 2))
        self.assertEqual(ratio_of(-6, 4), (-3, 2))
        self.assertEqual(ratio_of(6, -4), (-3, 2))
        self.assertEqual(ratio_of(-6, -4), (3, 2))
        self.assertEqual(ratio_of(7, 7), (1, 1))

    def test_nought_is_one(self):
        for bottom in (1, 2, -1, -7, SIXTY, -SIXTY):
            self.assertEqual(ratio_of(0, bottom), (0, 1))

    def test_a_bottom_of_nought(self):
        for top in NUMBERS:
            with self.assertRaises(NoRatio):
                ratio_of(top, 0)

    def test_plus_times_over_less(self):
        for one in RATIOS:
            for other in RATIOS:
                a, b = Fraction(*one), Fraction(*other)
                self.assertEqual(ratio_plus(one, other), pair_of(a + b))
                self.assertEqual(ratio_times(one, other), pair_of(a * b))
                self.assertIs(is_less(one, other), a < b)
                if b != 0:
                    self.assertEqual(ratio_over(one, other), pair_of(a / b))

    def test_some_sums_by_hand(self):
        self.assertEqual(ratio_plus((1, 2), (1, 3)), (5, 6))
        self.assertEqual(ratio_plus((1, 2), (-1, 2)), (0, 1))
        self.assertEqual(ratio_times((2, 3), (3, 4)), (1, 2))
        self.assertEqual(ratio_times((0, 1), (-3, 4)), (0, 1))
        self.assertEqual(ratio_over((1, 2), (-3, 4)), (-2, 3))
        self.assertEqual(ratio_over((0, 1), (-3, 4)), (0, 1))

    def test_over_nought(self):
        for one in RATIOS:
            with self.assertRaises(NoRatio):
                ratio_over(one, (0, 1))

    def test_none_is_less_than_a_like_one(self):
        for one in RATIOS:
            self.assertIs(is_less(one, one), False)
        self.assertIs(is_less((-1, 2), (-1, 3)), True)
        self.assertIs(is_less((-1, 3), (-1, 2)), False)
        self.assertIs(is_less((1, 3), (1, 2)), True)

    def test_whole_up(self):
        for one in RATIOS:
            up = whole_up(one)
            self.assertIs(type(up), int)
            self.assertTrue(up - 1 < Fraction(*one) <= up)

    def test_whole_up_by_hand(self):
        ratios = ((0, 1), (5, 1), (-5, 1), (1, 2), (-1, 2), (7, 2), (-7, 2), (1, SIXTY), (-1, SIXTY))
        told = [whole_up(one) for one in ratios]
        self.assertEqual(told, [0, 5, -5, 1, 0, 4, -3, 1, 0])


if __name__ == "__main__":
    unittest.main()
