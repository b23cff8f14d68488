import math
import random
import unittest
from fractions import Fraction

from askround.tables.fractions import fraction, is_fraction
from tests.support import THINGS, TOP, alike, answer_truth


class TestIsFraction(unittest.TestCase):
    def test_fractions(self):
        for thing in ((0, 1), (1, 1), (-1, 1), (1, 2), (-1, 2), (2, 3), (7, 1), (-7, 1), (999, 1000), (TOP, 1), (-TOP, 1), (1, TOP), (TOP, TOP - 1), (-TOP, 10 ** 39), (3 ** 200, 2 ** 300)):
            self.assertTrue(answer_truth(self, is_fraction, thing), thing)

    def test_not_in_lowest_terms(self):
        for thing in ((0, 2), (0, TOP), (2, 2), (2, 4), (-2, 4), (6, 3), (-6, 3), (10, 5), (TOP, TOP), (TOP, 3), (2 * TOP, 2), (6, 9), (15, 35)):
            self.assertFalse(answer_truth(self, is_fraction, thing), thing)

    def test_bottoms_below_one(self):
        for thing in ((1, 0), (0, 0), (1, -1), (-1, -2), (0, -1), (1, -TOP), (TOP, 0)):
            self.assertFalse(answer_truth(self, is_fraction, thing), thing)

    def test_of_anything_a_truth_is_told(self):
        for thing in THINGS:
            self.assertFalse(answer_truth(self, is_fraction, thing), thing)
        for thing in ([1, 2], (1,), (1, 2, 1), (True, 1), (False, 1), (1, True), (0, True), (True, True), ("1", 2), (1, "2"), ("1", "2"), (None, 1), (1, None), ((1,), 1), ({}, []), "1/2", 1, {1: 2}, (1, (2,))):
            self.assertFalse(answer_truth(self, is_fraction, thing), thing)

    def test_small_ones_all(self):
        for p in range(-12, 13):
            for q in range(-3, 13):
                right = q >= 1 and not any(p % part == 0 and q % part == 0 for part in range(2, 13))
                self.assertIs(is_fraction((p, q)), right, (p, q))


class TestFraction(unittest.TestCase):
    def assert_made(self, p, q, made):
        self.assertTrue(alike(fraction(p, q), made), fraction(p, q))
        self.assertTrue(is_fraction(made))

    def test_lowest_terms(self):
        for p, q, made in ((1, 1, (1, 1)), (2, 4, (1, 2)), (4, 2, (2, 1)), (6, 9, (2, 3)), (7, 7, (1, 1)), (3, 7, (3, 7)), (1000, 10, (100, 1)), (-6, 4, (-3, 2)), (-8, 2, (-4, 1))):
            self.assert_made(p, q, made)

    def test_of_nothing(self):
        for q in (1, 2, 7, TOP, -1, -2, -TOP):
            self.assert_made(0, q, (0, 1))

    def test_bottoms_below_zero(self):
        for p, q, made in ((1, -1, (-1, 1)), (1, -2, (-1, 2)), (-1, -2, (1, 2)), (6, -4, (-3, 2)), (-6, -4, (3, 2)), (TOP, -TOP, (-1, 1)), (-9, -3, (3, 1))):
            self.assert_made(p, q, made)

    def test_great_numbers(self):
        self.assert_made(TOP, 1, (TOP, 1))
        self.assert_made(TOP * (TOP - 1), (TOP - 1) * 10, (TOP, 10))
        self.assert_made(2 ** 500, -2 ** 499, (-2, 1))
        self.assert_made(3 ** 300, 6 ** 300, (1, 2 ** 300))
        self.assert_made(10 ** 900 + 1, 10 ** 900, (10 ** 900 + 1, 10 ** 900))

    def test_at_random(self):
        chance = random.Random(106)
        for _ in range(3000):
            top = 10 ** chance.randrange(1, 40)
            p, q = chance.randrange(-top, top), chance.randrange(1, top + 1) * chance.choice((1, -1))
            more = chance.randrange(1, 50)
            made = Fraction(p, q)
            for shared in (1, more, math.factorial(20)):
                self.assert_made(p * shared, q * shared, (made.numerator, made.denominator))
