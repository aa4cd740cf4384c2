"""Promises 1.2, 0.4 and 0.3: the product of two rows, and the row that weights make."""

import unittest

from trimrows.things import made_by, product

GREAT = 10 ** 400 + 7


class Product(unittest.TestCase):
    def check(self, one, other, told):
        found = product(one, other)
        self.assertEqual(found, told)
        self.assertIs(type(found), int)
        self.assertEqual(product(other, one), told)

    def test_ordinary_rows(self):
        self.check((1, 2), (3, 4), 11)
        self.check((1, 2, 3), (4, 5, 6), 32)
        self.check((2, 3, 5, 7), (11, 13, 17, 19), 279)

    def test_one_wide_and_five_wide(self):
        self.check((7,), (6,), 42)
        self.check((1, 2, 3, 4, 5), (10, 100, 1000, 10000, 100000), 543210)

    def test_noughts(self):
        self.check((0,), (5,), 0)
        self.check((0, 0, 0, 0, 0), (1, 2, 3, 4, 5), 0)
        self.check((0, 0), (0, 0), 0)
        self.check((1, 0), (0, 1), 0)
        self.check((0, 3, 0), (9, 2, 9), 6)

    def test_negative_numbers(self):
        self.check((-1, 2), (3, -4), -11)
        self.check((-5,), (-5,), 25)
        self.check((1, 1), (1, -1), 0)
        self.check((-1000, 1000, -1000, 1000, -1000), (1000, -1000, 1000, -1000, 1000), -5000000)

    def test_a_square(self):
        self.check((3, -4), (3, -4), 25)
        self.check((1000, 1000, 1000, 1000, 1000), (1000, 1000, 1000, 1000, 1000), 5000000)

    def test_numbers_of_any_size(self):
        self.check((GREAT, 1), (1, -GREAT), 0)
        self.check((GREAT, 1), (GREAT, 1), GREAT * GREAT + 1)
        self.check((-GREAT,), (GREAT,), -(GREAT * GREAT))
        self.check((2 ** 53 + 1, 2 ** 63), (1, 1), 2 ** 53 + 1 + 2 ** 63)
        self.check((1001, -1001), (1001, 1), 1001 * 1000)

    def test_the_same_is_told_again_and_nothing_is_changed(self):
        one = (3, -4, GREAT)
        other = (5, 6, -7)
        told = product(one, other)
        self.assertEqual(product((0, 1, 2), (1, 1, 1)), 3)
        self.assertEqual(product(one, other), told)
        self.assertEqual(one, (3, -4, GREAT))
        self.assertEqual(other, (5, 6, -7))


class MadeBy(unittest.TestCase):
    def check(self, rows, weights, told):
        found = made_by(rows, weights)
        self.assertIs(type(found), tuple)
        self.assertEqual(found, told)
        for number in found:
            self.assertIs(type(number), int)

    def test_ordinary_rows(self):
        self.check(((1, 2), (3, 4)), (1, 1), (4, 6))
        self.check(((1, 2), (3, 4)), (5, 7), (26, 38))
        self.check(((1, 2, 3), (4, 5, 6)), (10, 1), (14, 25, 36))

    def test_each_weight_goes_with_its_own_row(self):
        rows = ((1, 2, 3, 4, 5), (10, 20, 30, 40, 50), (6, 7, 8, 9, 0), (-1, 1, -1, 1, -1))
        self.check(rows, (1, 0, 0, 0), rows[0])
        self.check(rows, (0, 1, 0, 0), rows[1])
        self.check(rows, (0, 0, 1, 0), rows[2])
        self.check(rows, (0, 0, 0, 1), rows[3])

    def test_one_row_and_four_rows(self):
        self.check(((3, -1, 0),), (4,), (12, -4, 0))
        self.check(((1, 0, 0, 0), (0, 1, 0, 0), (0, 0, 1, 0), (1, 1, 1, 1)), (2, 3, 5, 7), (9, 10, 12, 7))
        self.check(((1, 2, 3, 4, 5), (0, 1, 0, 1, 0), (2, 0, 0, 0, 1), (0, 0, 7, 0, 0)), (1, -2, 3, 4),
                   (7, 0, 31, 2, 8))

    def test_one_wide_and_five_wide(self):
        self.check(((7,),), (6,), (42,))
        self.check(((1, 2, 3, 4, 5),), (3,), (3, 6, 9, 12, 15))
        self.check(((1, 2, 3, 4, 5), (5, 4, 3, 2, 1)), (1, 1), (6, 6, 6, 6, 6))

    def test_noughts(self):
        self.check(((5,),), (0,), (0,))
        self.check(((1, 2, 3, 4, 5), (5, 4, 3, 2, 2)), (0, 0), (0, 0, 0, 0, 0))
        self.check(((0, 3), (2, 0)), (1, 1), (2, 3))
        self.check(((1, 1), (1, 2)), (0, 4), (4, 8))

    def test_negative_numbers(self):
        self.check(((1, -2), (-3, 4)), (-1, -2), (5, -6))
        self.check(((-7,),), (-6,), (42,))
        self.check(((1000, -1000), (1000, 1000)), (1, -1), (0, -2000))

    def test_numbers_of_any_size(self):
        self.check(((1, -1), (0, 1)), (GREAT, GREAT), (GREAT, 0))
        self.check(((GREAT, 1), (1, GREAT)), (GREAT, -1), (GREAT * GREAT - 1, 0))
        self.check(((2 ** 53, 1),), (2 ** 53 + 1,), (2 ** 106 + 2 ** 53, 2 ** 53 + 1))
        self.check(((1000, -1000), (1000, 1000)), (1001, 2001), (3002000, 1000000))

    def test_the_same_is_told_again_and_nothing_is_changed(self):
        rows = ((1, 2, 3), (4, 5, -6))
        weights = (7, -8)
        told = made_by(rows, weights)
        self.assertEqual(made_by(((1, 1), (0, 1)), (2, 3)), (2, 5))
        self.assertEqual(made_by(rows, weights), told)
        self.assertEqual(rows, ((1, 2, 3), (4, 5, -6)))
        self.assertEqual(weights, (7, -8))


if __name__ == "__main__":
    unittest.main()
