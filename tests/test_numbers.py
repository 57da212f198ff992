import random
import unittest
from fractions import Fraction

from tests.helper import number, odd_things
from weblayers.numbers import (
    common_bottom, common_divisor, difference, in_units, is_above_nothing, is_amount, is_less, is_number, is_whole, lowest,
    parted, product, total,
)

GREAT = 2 ** 4000 * 3 ** 500


class Numbers(unittest.TestCase):
    def test_whole_numbers(self):
        for thing in (0, 1, -1, 10 ** 40):
            self.assertIs(is_whole(thing), True)
        for thing in (True, False, None, "1", (1,), [1], b"1", Fraction(1)):
            self.assertIs(is_whole(thing), False)

    def test_lowest_terms(self):
        for top, bottom, told in (
            (0, 1, (0, 1)), (0, 7, (0, 1)), (0, GREAT, (0, 1)), (6, 4, (3, 2)), (4, 6, (2, 3)), (12, 4, (3, 1)),
            (7, 7, (1, 1)), (5, 3, (5, 3)), (-6, 4, (-3, 2)), (-8, 4, (-2, 1)), (10 ** 6, 1200, (2500, 3)),
            (GREAT * 10, GREAT * 15, (2, 3)), (GREAT, 1, (GREAT, 1)), (GREAT + 1, GREAT, (GREAT + 1, GREAT)),
        ):
            self.assertEqual(lowest(top, bottom), told)

    def test_lowest_terms_of_many(self):
        for top in range(-40, 41):
            for bottom in range(1, 41):
                self.assertEqual(lowest(top, bottom), number(Fraction(top, bottom)))

    def test_common_divisor(self):
        for one, other, told in ((0, 5, 5), (5, 0, 5), (12, 18, 6), (18, 12, 6), (17, 19, 1), (GREAT, GREAT * 7, GREAT)):
            self.assertEqual(common_divisor(one, other), told)

    def test_what_a_number_is(self):
        for thing in ((0, 1), (1, 1), (-1, 1), (1, 2), (-3, 2), (GREAT, 5 * GREAT + 1), (10 ** 9, 999999)):
            self.assertIs(is_number(thing), True)

    def test_what_a_number_is_not(self):
        for thing in odd_things() + [
            0, 1, (0, 2), (0, 0), (1, 0), (0, -1), (1, -1), (-1, -2), (2, 2), (4, 6), (-4, 6), (GREAT, 2 * GREAT),
            (1,), (), (1, 2, 1), [1, 2], (True, 1), (1, True), (False, 1), ("1", 2), (1, "2"), (1, None), ((1,), 2),
            ((1, 2), 1), (1, (1, 2)), "12",
        ]:
            self.assertIs(is_number(thing), False, thing.__class__)
            self.assertIs(is_amount(thing), False, thing.__class__)

    def test_amounts_are_from_0_on(self):
        for thing, told in (((0, 1), True), ((1, 3), True), ((-1, 3), False), ((-1, 1), False)):
            self.assertIs(is_amount(thing), told)

    def test_sums(self):
        chance = random.Random(4)
        self.assertEqual(total([]), (0, 1))
        self.assertEqual(total(((1, 2), (1, 3), (1, 6))), (1, 1))
        for turn in range(200):
            parts = [Fraction(chance.randint(-50, 50), chance.randint(1, 10 ** 6)) for part in range(chance.randint(0, 9))]
            self.assertEqual(total([number(part) for part in parts]), number(sum(parts)))

    def test_parted_and_less(self):
        self.assertEqual(parted((6, 5), 4), (3, 10))
        self.assertEqual(parted((0, 1), 100), (0, 1))
        parts = [Fraction(top, bottom) for top in range(-5, 6) for bottom in range(1, 6)]
        for one in parts:
            for other in parts:
                self.assertIs(is_less(number(one), number(other)), one < other)

    def test_differences_and_products(self):
        parts = [Fraction(top, bottom) for top in range(-5, 6) for bottom in range(1, 6)]
        for one in parts:
            for other in parts:
                self.assertEqual(difference(number(one), number(other)), number(one - other))
                self.assertEqual(product(number(one), number(other)), number(one * other))

    def test_numbers_above_0(self):
        for thing, told in (((0, 1), False), ((1, 3), True), ((-1, 3), False), ((2, 2), False), (1, False), (True, False)):
            self.assertIs(is_above_nothing(thing), told)

    def test_one_unit_for_all(self):
        self.assertEqual(common_bottom([]), 1)
        self.assertEqual(common_bottom([(1, 4), (5, 6), (7, 1)]), 12)
        self.assertEqual(common_bottom([(1, 4), (3, 4), (1, 2)]), 4)
        self.assertEqual(common_bottom([(1, 999983), (1, 10 ** 6), (1, 999979)]), 999983 * 10 ** 6 * 999979)
        self.assertEqual([in_units(one, 12) for one in ((1, 4), (5, 6), (7, 1), (0, 1))], [3, 10, 84, 0])


if __name__ == "__main__":
    unittest.main()
