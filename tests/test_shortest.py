"""Promise 4.2, with 0.2 (e): weights, not all 0, that make a shortest row."""

import itertools
import math
import unittest

import reckoning
from trimrows.shortest import shortest
from trimrows.things import made_by
from trimrows.trimming import trim

# The weights that are tried, by the count of rows.
SPANS = {1: 40, 2: 15, 3: 6, 4: 3}


def short_square(rows):
    return reckoning.square_of(made_by(rows, shortest(rows)))


class ShortestCase(unittest.TestCase):
    def check(self, rows):
        with self.subTest(rows=repr(rows)[:200]):
            weights = shortest(rows)
            self.assertTrue(reckoning.are_whole(weights))
            self.assertEqual(len(weights), len(rows))
            self.assertTrue(any(weights))
            square = reckoning.square_of(reckoning.sum_of(rows, weights))
            self.assertGreater(square, 0)
            trimmed = trim(rows)[0]
            for row in rows + trimmed:
                self.assertLessEqual(square, reckoning.square_of(row))
            self.check_by_trying(rows, square)
            self.check_by_trying(trimmed, square)

    def check_by_trying(self, rows, square):
        for weights in reckoning.some_weights(len(rows), SPANS[len(rows)]):
            self.assertLessEqual(square, reckoning.square_of(reckoning.sum_of(rows, weights)))

    def check_same(self, rows, others):
        with self.subTest(rows=repr(rows)[:200], others=repr(others)[:200]):
            self.assertEqual(short_square(rows), short_square(others))


class Shortest(ShortestCase):
    def test_told_by_hand(self):
        self.assertIn(shortest(((5,),)), ((1,), (-1,)))
        self.assertIn(shortest(((1, -2, 3, -4, 5),)), ((1,), (-1,)))
        self.assertIn(shortest(((3, 0), (0, 2))), ((0, 1), (0, -1)))
        self.assertIn(shortest(((2, 0), (0, 3))), ((1, 0), (-1, 0)))
        self.assertIn(shortest(((1000, 999), (1001, 1000))), ((1000, -999), (-1000, 999), (1001, -1000), (-1001, 1000)))
        # The second less the first has a square of 2; all else that is made has more.
        self.assertIn(shortest(((5, 0, 7), (6, 0, 8))), ((-1, 1), (1, -1)))

    def test_the_square_of_the_shortest(self):
        for rows, square in (
            (((1, 2), (3, 4)), 1),
            (((201, 37), (1648, 297)), 1025),
            (((10, 0), (5, 8)), 89),
            (((2, 0, 0, 0), (0, 2, 0, 0), (0, 0, 2, 0), (1, 1, 1, 1)), 4),
            (((3, 0, 0, 0), (0, 3, 0, 0), (0, 0, 3, 0), (1, 1, 1, 1)), 4),
            (((4, 0, 0, 0), (0, 4, 0, 0), (0, 0, 4, 0), (1, 1, 1, 1)), 4),
            (((1000, 1000, 1000, 1000, 1000), (1000, 1000, 1000, 1000, 999)), 1),
        ):
            self.assertEqual(short_square(rows), square)

    def test_ordinary_rows(self):
        for rows in reckoning.ORDINARY:
            self.check(rows)

    def test_numbers_at_the_bounds_and_rows_nearly_made_of_one_another(self):
        for rows in reckoning.AT_THE_BOUNDS + reckoning.NEARLY_MADE_OF_ONE_ANOTHER:
            self.check(rows)

    def test_numbers_far_beyond_the_bounds(self):
        for rows in reckoning.FAR_BEYOND_THE_BOUNDS:
            self.check(rows)

    def test_where_the_first_trim_row_is_not_a_shortest_one(self):
        for rows in reckoning.TRIM_BUT_NOT_SHORTEST:
            self.assertTrue(reckoning.trim_by_the_words(rows))
            self.assertLess(short_square(rows), reckoning.square_of(rows[0]))
            self.check(rows)

    def test_where_no_trim_row_is_a_shortest_one(self):
        for rows in reckoning.TRIM_BUT_NOT_SHORTEST[1:]:
            self.assertLess(short_square(rows), min(reckoning.square_of(row) for row in rows))

    def test_drawn_rows(self):
        for rows in reckoning.drawn_rows(51, 120, (1, 2, 3, 30, 1000)):
            self.check(rows)


class AgainstAllShorterRows(unittest.TestCase):
    """Every row of whole numbers that is shorter than the one that is told, and no nought, is not made."""

    def check(self, rows):
        square = short_square(rows)
        most = math.isqrt(square)
        for row in itertools.product(range(-most, most + 1), repeat=len(rows[0])):
            if any(row) and reckoning.square_of(row) < square:
                found = reckoning.fractional_weights(rows, row)
                self.assertTrue(found is None or any(weight.denominator > 1 for weight in found), f"{rows} {row}")

    def test_small_rows(self):
        for rows in reckoning.drawn_rows(52, 200, (2, 5, 9)):
            if len(rows[0]) <= 3:
                self.check(rows)

    def test_four_rows(self):
        self.check(((3, 0, 0, 0), (0, 3, 0, 0), (0, 0, 3, 0), (1, 1, 1, 2)))
        self.check(((1, 0, 0, 2), (0, 1, 0, 3), (0, 0, 1, 5), (0, 0, 0, 17)))
        self.check(((-1, 0, 1, -1, -1), (0, -1, 0, 1, 1), (1, 1, 0, 0, 1), (0, 1, -1, 1, 0)))


class RowsThatMakeTheSame(ShortestCase):
    def test_some_added_to_others(self):
        for rows in reckoning.ALL_ROWS:
            for times in (1, -2, 999, reckoning.GREAT):
                self.check_same(rows, reckoning.far_from_trim(rows, times))

    def test_another_order(self):
        for rows in reckoning.ALL_ROWS:
            for others in itertools.permutations(rows):
                self.check_same(rows, others)

    def test_signs_turned(self):
        for rows in reckoning.ALL_ROWS:
            for signs in itertools.product((1, -1), repeat=len(rows)):
                self.check_same(rows, tuple(tuple(sign * number for number in row) for sign, row in zip(signs, rows)))

    def test_the_trim_rows(self):
        for rows in reckoning.ALL_ROWS:
            self.check_same(rows, trim(rows)[0])


if __name__ == "__main__":
    unittest.main()
