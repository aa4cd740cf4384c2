"""Promise 4.1, with 0.2 (c) and (d): the weights that make a row, and those that make one near it."""

import itertools
import unittest

import reckoning
from trimrows.making import near, weights_of
from trimrows.things import made_by
from trimrows.trimming import trim

GREAT = reckoning.GREAT
NUMBERS = (0, 1, -1, 2, -7, 1000, -1001, 10 ** 9, GREAT, -GREAT ** 2)


def weights_in_turn(count):
    """Some weights, with noughts, negative and great ones at every place."""
    for turn in range(len(NUMBERS)):
        yield tuple(NUMBERS[(turn + 3 * place) % len(NUMBERS)] for place in range(count))
        yield tuple(NUMBERS[turn] if place == turn % count else 0 for place in range(count))
        yield (NUMBERS[turn],) * count


class WeightsOf(unittest.TestCase):
    def check_none(self, rows, row):
        self.assertIsNone(weights_of(rows, row))
        found = reckoning.fractional_weights(rows, row)
        self.assertTrue(found is None or any(weight.denominator > 1 for weight in found))

    def test_told_by_hand(self):
        self.assertEqual(weights_of(((1, 2), (3, 4)), (26, 38)), (5, 7))
        self.assertEqual(weights_of(((1, 2), (3, 4)), (1, 0)), (-2, 1))
        self.assertEqual(weights_of(((3,),), (-12,)), (-4,))
        self.assertEqual(weights_of(((1, 0, 0), (0, 0, 1)), (4, 0, -9)), (4, -9))

    def test_the_very_weights_that_made_the_row(self):
        for rows in reckoning.ALL_ROWS:
            for weights in weights_in_turn(len(rows)):
                with self.subTest(rows=repr(rows)[:200], weights=repr(weights)[:200]):
                    told = weights_of(rows, made_by(rows, weights))
                    self.assertTrue(reckoning.are_whole(told))
                    self.assertEqual(told, weights)

    def test_each_of_the_rows_itself(self):
        for rows in reckoning.ALL_ROWS:
            for place, row in enumerate(rows):
                self.assertEqual(weights_of(rows, row), tuple(int(k == place) for k in range(len(rows))))

    def test_the_nought_row(self):
        for rows in reckoning.ALL_ROWS:
            self.assertEqual(weights_of(rows, (0,) * len(rows[0])), (0,) * len(rows))

    def test_a_row_that_only_fractions_would_make(self):
        self.check_none(((2,),), (1,))
        self.check_none(((2,),), (-3,))
        self.check_none(((3, 6),), (1, 2))
        self.check_none(((2, 0), (0, 2)), (1, 0))
        self.check_none(((2, 0), (0, 2)), (1, 1))
        self.check_none(((2, 0), (0, 2)), (4, 1))
        self.check_none(((1, 2), (3, 4)), (1, 1))
        self.check_none(((1, 1, 0), (0, 1, 1), (1, 0, 1)), (1, 0, 0))
        self.check_none(((2, 0, 0, 0), (0, 3, 0, 0), (0, 0, 5, 0), (1, 1, 1, 1)), (1, 0, 0, 0))
        self.check_none(((1000, 999), (999, 999)), (0, 1))

    def test_half_of_each_row(self):
        for rows in reckoning.ALL_ROWS:
            doubled = tuple(tuple(2 * number for number in row) for row in rows)
            for row in rows:
                self.check_none(doubled, row)

    def test_a_row_that_nothing_makes(self):
        self.check_none(((1, 0),), (0, 1))
        self.check_none(((1, 0),), (1, 1))
        self.check_none(((1, 2),), (2, 5))
        self.check_none(((1, 0, 0), (0, 1, 0)), (0, 0, 1))
        self.check_none(((1, 0, 0), (0, 1, 0)), (3, -4, 1))
        self.check_none(((1, 1, 1, 1, 1),), (0, 0, 0, 0, 7))
        self.check_none(((1, 2, 3, 4, 5), (5, 4, 3, 2, 2), (0, 0, 1, 0, 7), (9, -9, 9, -9, 9)), (1, 0, 0, 0, 0))

    def test_numbers_of_any_size(self):
        rows = ((GREAT, 1), (1, GREAT))
        self.assertEqual(weights_of(rows, (GREAT ** 2 - 1, 0)), (GREAT, -1))
        self.check_none(rows, (GREAT ** 2, 0))
        self.check_none(rows, (GREAT ** 2 - 2, 0))
        self.check_none(((2 * GREAT,),), (GREAT,))
        self.assertEqual(weights_of(((2 * GREAT,),), (-6 * GREAT,)), (-3,))
        self.assertEqual(weights_of(((1, 0), (0, 1)), (GREAT, -GREAT - 1)), (GREAT, -GREAT - 1))
        self.check_none(((1, 0, 0), (0, 1, 0)), (GREAT, -GREAT, 1))
        # As near to a made row as whole numbers can be.
        self.check_none(((3, 0), (0, 1)), (3 * GREAT + 1, GREAT))

    def test_all_small_rows_are_told_as_fractions_would(self):
        cases = (((2, 1), (1, 3)), ((3, 1, 0), (0, 2, 1)), ((1, 1, 0), (0, 1, 1), (1, 0, 1)), ((2, -3, 1),), ((2,),))
        for rows in cases:
            for row in itertools.product(range(-6, 7), repeat=len(rows[0])):
                found = reckoning.fractional_weights(rows, row)
                if found is None or any(weight.denominator > 1 for weight in found):
                    self.assertIsNone(weights_of(rows, row))
                else:
                    self.assertEqual(weights_of(rows, row), tuple(found))


class Near(unittest.TestCase):
    def check(self, rows, row):
        with self.subTest(rows=repr(rows)[:200], row=repr(row)[:200]):
            told = near(rows, row)
            self.assertTrue(reckoning.are_whole(told))
            self.assertEqual(len(told), len(rows))
            rest = reckoning.less(row, reckoning.sum_of(rows, told))
            for upright in reckoning.uprights_and_shares(rows)[0]:
                self.assertLessEqual(abs(2 * reckoning.dot(rest, upright)), reckoning.square_of(upright))

    def rows_beside(self, wide):
        yield (0,) * wide
        for turn in range(4):
            yield tuple(NUMBERS[(turn + 2 * place) % 6] for place in range(wide))
            yield tuple(NUMBERS[(turn + 3 * place) % len(NUMBERS)] for place in range(wide))
            yield tuple((-1) ** place * (37 * turn + 11 * place) for place in range(wide))

    def test_told_by_hand(self):
        self.assertEqual(near(((10,),), (14,)), (1,))
        self.assertEqual(near(((10,),), (16,)), (2,))
        self.assertEqual(near(((10,),), (-14,)), (-1,))
        self.assertEqual(near(((10,),), (-16,)), (-2,))
        self.assertEqual(near(((10, 0), (0, 10)), (-26, 34)), (-3, 3))
        # What the second row is taken for changes what is left for the first.
        self.assertEqual(near(((10, 0), (4, 10)), (1, 11)), (0, 1))
        self.assertEqual(near(((10, 0), (4, 10)), (1, 21)), (-1, 2))

    def test_rows_that_are_not_trim(self):
        for rows in reckoning.ALL_ROWS:
            for row in self.rows_beside(len(rows[0])):
                self.check(rows, row)

    def test_rows_that_are_trim(self):
        for rows in reckoning.ALL_ROWS:
            trimmed = trim(rows)[0]
            for row in self.rows_beside(len(rows[0])):
                self.check(trimmed, row)

    def test_rows_far_from_trim(self):
        for rows in reckoning.ORDINARY:
            for row in self.rows_beside(len(rows[0])):
                self.check(reckoning.far_from_trim(rows, 29), row)

    def test_a_row_that_is_made_leaves_nothing(self):
        for rows in reckoning.ALL_ROWS:
            for weights in weights_in_turn(len(rows)):
                self.assertEqual(near(rows, made_by(rows, weights)), weights)

    def test_a_row_halfway(self):
        for row in ((5,), (-5,), (15,), (-15,), (10 * GREAT + 5,), (-10 * GREAT - 5,)):
            self.check(((10,),), row)
            self.check(((-10,),), row)
        for row in itertools.product((5, -5, 15, -25, 0), repeat=3):
            self.check(((10, 0, 0), (0, 10, 0), (0, 0, 10)), row)
            self.check(((10, 0, 0), (10, 10, 0), (30, 20, 10)), row)

    def test_just_beside_halfway(self):
        for number in (10 * GREAT + 4, 10 * GREAT + 6, -10 * GREAT - 4, -10 * GREAT - 6):
            told = near(((10, 0), (0, 10)), (number, 0))
            self.assertEqual(told, ((number + 5) // 10, 0))
            self.check(((10, 0), (0, 10)), (number, 0))

    def test_halfway_between_made_rows_of_all_kept_rows(self):
        for rows in reckoning.ALL_ROWS:
            doubled = tuple(tuple(2 * number for number in row) for row in rows)
            for weights in itertools.product((1, -3, 0), repeat=len(rows)):
                self.check(doubled, made_by(rows, weights))

    def test_a_row_that_lies_off_all_that_is_made(self):
        self.check(((3, 0, 0),), (0, 7, 9))
        self.check(((3, 1, 0), (1, 3, 0)), (5, 5, GREAT))
        self.check(((1, 1, 1, 1, 1), (0, 0, 0, 0, 2)), (-3, 8, GREAT, 0, 5))

    def test_drawn_rows(self):
        for rows in reckoning.drawn_rows(41, 150, (2, 9, 1000, 10 ** 40)):
            for row in self.rows_beside(len(rows[0])):
                self.check(rows, row)


if __name__ == "__main__":
    unittest.main()
