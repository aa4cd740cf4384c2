"""Promises 2.1 and 2.2, with 0.5, 0.6 and 0.7: shares, heights, volumes, and whether rows are trim."""

import math
import unittest
from fractions import Fraction

import reckoning
from trimrows.uprights import are_trim, heights, shares, volumes


class UprightsCase(unittest.TestCase):
    def check_fraction(self, pair):
        self.assertIs(type(pair), tuple)
        self.assertEqual(len(pair), 2)
        for number in pair:
            self.assertIs(type(number), int)
        self.assertGreaterEqual(pair[1], 1)
        self.assertEqual(math.gcd(*pair), 1)

    def check_kinds(self, rows):
        told = shares(rows)
        self.assertIs(type(told), tuple)
        self.assertEqual(len(told), len(rows))
        for place, own in enumerate(told):
            self.assertIs(type(own), tuple)
            self.assertEqual(len(own), place)
            for pair in own:
                self.check_fraction(pair)
        self.assertIs(type(heights(rows)), tuple)
        self.assertEqual(len(heights(rows)), len(rows))
        for pair in heights(rows):
            self.check_fraction(pair)
        self.assertTrue(reckoning.are_whole(volumes(rows)))
        self.assertEqual(len(volumes(rows)), len(rows))

    def check_against_the_words(self, rows):
        uprights, own = reckoning.uprights_and_shares(rows)
        squares = [reckoning.square_of(upright) for upright in uprights]
        self.assertEqual(shares(rows), tuple(tuple((f.numerator, f.denominator) for f in line) for line in own))
        self.assertEqual(heights(rows), tuple((f.numerator, f.denominator) for f in squares))
        self.assertEqual(volumes(rows), tuple(math.prod(squares[:place + 1]) for place in range(len(rows))))

    def check_that_they_stand_upright(self, rows):
        """The uprights, built of the shares that are told alone, are upright on one another."""
        uprights = []
        for row, own in zip(rows, shares(rows), strict=True):
            for upright, (upper, lower) in zip(uprights, own, strict=True):
                row = reckoning.less(row, upright, Fraction(upper, lower))
            for upright in uprights:
                self.assertEqual(reckoning.dot(row, upright), 0)
            uprights.append(row)
        for upright, (upper, lower) in zip(uprights, heights(rows), strict=True):
            self.assertEqual(reckoning.square_of(upright), Fraction(upper, lower))

    def check(self, rows):
        with self.subTest(rows=repr(rows)[:200]):
            self.check_kinds(rows)
            self.check_against_the_words(rows)
            self.check_that_they_stand_upright(rows)


class Told(unittest.TestCase):
    """Answers reckoned by hand."""

    def check(self, rows, own, squares, multiplied):
        with self.subTest(rows=rows):
            self.assertEqual(shares(rows), own)
            self.assertEqual(heights(rows), squares)
            self.assertEqual(volumes(rows), multiplied)

    def test_one_row_has_an_empty_tuple_of_shares(self):
        self.check(((3,),), ((),), ((9, 1),), (9,))
        self.check(((-7,),), ((),), ((49, 1),), (49,))
        self.check(((1, -2, 3, -4, 5),), ((),), ((55, 1),), (55,))

    def test_shares_that_are_0(self):
        self.check(((2, 0), (0, 3)), ((), ((0, 1),)), ((4, 1), (9, 1)), (4, 36))
        self.check(((1, 1, 0), (1, -1, 0), (0, 0, 5)), ((), ((0, 1),), ((0, 1), (0, 1))),
                   ((2, 1), (2, 1), (25, 1)), (2, 4, 100))

    def test_whole_and_negative_shares(self):
        self.check(((1, 0), (7, 1)), ((), ((7, 1),)), ((1, 1), (1, 1)), (1, 1))
        self.check(((2, 0), (-6, 1)), ((), ((-3, 1),)), ((4, 1), (1, 1)), (4, 4))
        self.check(((-2, 0), (1, 3)), ((), ((-1, 2),)), ((4, 1), (9, 1)), (4, 36))
        self.check(((-2, 0), (-1, 3)), ((), ((1, 2),)), ((4, 1), (9, 1)), (4, 36))

    def test_a_common_divisor_is_taken_out(self):
        # 6 * 9 of 36, and -4 * 6 of 36.
        self.check(((6, 0), (9, 1)), ((), ((3, 2),)), ((36, 1), (1, 1)), (36, 36))
        self.check(((6, 0), (-4, 1)), ((), ((-2, 3),)), ((36, 1), (1, 1)), (36, 36))

    def test_heights_that_are_fractions(self):
        self.check(((1, 2), (3, 4)), ((), ((11, 5),)), ((5, 1), (4, 5)), (5, 4))
        self.check(((1, 1, 0), (0, 1, 1), (1, 0, 1)), ((), ((1, 2),), ((1, 2), (1, 3))),
                   ((2, 1), (3, 2), (4, 3)), (2, 3, 4))

    def test_four_rows(self):
        self.check(((2, 0, 0, 0), (0, 3, 0, 0), (0, 0, 5, 0), (1, 1, 1, 1)),
                   ((), ((0, 1),), ((0, 1), (0, 1)), ((1, 2), (1, 3), (1, 5))),
                   ((4, 1), (9, 1), (25, 1), (1, 1)), (4, 36, 900, 900))

    def test_the_share_is_that_of_the_upright_and_not_of_the_row_ahead(self):
        # The third row has 2 along the second row, but nothing along the second upright.
        self.check(((1, 0, 0), (2, 1, 0), (1, 0, 1)), ((), ((2, 1),), ((1, 1), (0, 1))),
                   ((1, 1), (1, 1), (1, 1)), (1, 1, 1))

    def test_the_order_of_the_rows_counts(self):
        self.assertEqual(volumes(((1, 2), (3, 4))), (5, 4))
        self.assertEqual(volumes(((3, 4), (1, 2))), (25, 4))
        self.assertEqual(shares(((3, 4), (1, 2))), ((), ((11, 25),)))


class AgainstTheWords(UprightsCase):
    def test_all_kept_rows(self):
        for rows in reckoning.ALL_ROWS:
            self.check(rows)

    def test_drawn_rows(self):
        for rows in reckoning.drawn_rows(21, 300, (1, 2, 9, 1000)):
            self.check(rows)

    def test_drawn_rows_of_any_size(self):
        for rows in reckoning.drawn_rows(22, 40, (10 ** 20, 10 ** 60)):
            self.check(rows)


class AreTrim(unittest.TestCase):
    def check(self, rows, told):
        with self.subTest(rows=repr(rows)[:200]):
            self.assertIs(are_trim(rows), told)
            self.assertIs(reckoning.trim_by_the_words(rows), told)

    def test_one_row_is_trim(self):
        self.check(((1,),), True)
        self.check(((-1000, 999, 0, 1, 2),), True)
        self.check(((reckoning.GREAT,),), True)

    def test_rows_upright_on_one_another(self):
        self.check(((1, 0), (0, 1)), True)
        self.check(((0, 0, 0, 3), (3, 0, 0, 0), (0, -3, 0, 0), (0, 0, 3, 0)), True)

    def test_a_share_of_exactly_a_half_and_one_just_beyond(self):
        for sign in (1, -1):
            self.check(((2, 0), (sign, 2)), True)
            self.check(((1000, 0), (499 * sign, 1000)), True)
            self.check(((1000, 0), (500 * sign, 1000)), True)
            self.check(((1000, 0), (501 * sign, 1000)), False)
            self.check(((-1000, 0), (501 * sign, 1000)), False)
            self.check(((2 * reckoning.GREAT, 0), (reckoning.GREAT * sign, 2 * reckoning.GREAT)), True)
            self.check(((2 * reckoning.GREAT, 0), ((reckoning.GREAT + 1) * sign, 2 * reckoning.GREAT)), False)

    def test_each_share_of_each_row_counts(self):
        for sign in (1, -1):
            self.check(((10, 0, 0), (0, 10, 0), (5 * sign, 5, 10)), True)
            self.check(((10, 0, 0), (0, 10, 0), (6 * sign, 0, 10)), False)
            self.check(((10, 0, 0), (0, 10, 0), (0, 6 * sign, 10)), False)
            self.check(((10, 0, 0, 0), (0, 10, 0, 0), (0, 0, 10, 0), (6 * sign, 0, 0, 10)), False)
            self.check(((10, 0, 0, 0), (0, 10, 0, 0), (0, 0, 10, 0), (0, 6 * sign, 0, 10)), False)
            self.check(((10, 0, 0, 0), (0, 10, 0, 0), (0, 0, 10, 0), (0, 0, 6 * sign, 10)), False)
            self.check(((10, 0, 0, 0), (6 * sign, 10, 0, 0), (0, 0, 10, 0), (0, 0, 0, 10)), False)

    def test_a_square_exactly_at_the_bound_where_the_share_is_0(self):
        # 3/4 of 400 is 300.
        self.check(((20, 0, 0, 0, 0), (0, 17, 3, 1, 1)), True)
        self.check(((20, 0, 0, 0, 0), (0, 17, 3, 1, 0)), False)
        self.check(((2, 0, 0, 0), (0, 1, 1, 1)), True)
        self.check(((2, 0, 0), (0, 1, 1)), False)

    def test_a_square_exactly_at_the_bound_where_the_share_is_a_half(self):
        # 1/2 of 400 is 200.
        for sign in (1, -1):
            self.check(((20, 0, 0, 0, 0), (10 * sign, 14, 2, 1, 0)), True)
            self.check(((20, 0, 0, 0, 0), (10 * sign, 14, 2, 0, 0)), True)
            self.check(((20, 0, 0, 0, 0), (10 * sign, 14, 1, 1, 1)), False)

    def test_a_square_exactly_at_the_bound_where_the_share_is_a_quarter(self):
        # 11/16 of 16 is 11.
        for sign in (1, -1):
            self.check(((4, 0, 0, 0), (sign, 3, 1, 1)), True)
            self.check(((4, 0, 0, 0), (sign, 3, 1, 0)), False)

    def test_the_bound_at_the_third_and_the_fourth_upright(self):
        self.check(((2, 0, 0, 0), (0, 2, 0, 0), (0, 1, 1, 1)), True)
        self.check(((2, 0, 0, 0), (0, 2, 0, 0), (0, 1, 1, 0)), False)
        self.check(((2, 0, 0, 0, 0), (0, 2, 0, 0, 0), (0, 0, 2, 0, 0), (0, 0, 1, 1, 1)), True)
        self.check(((2, 0, 0, 0, 0), (0, 2, 0, 0, 0), (0, 0, 2, 0, 0), (0, 0, 1, 1, 0)), False)

    def test_the_share_and_the_square_are_those_just_ahead(self):
        # Half of the first upright, but nothing of the second: the bound is 3, and the square is 2.
        self.check(((2, 0, 0, 0), (0, 2, 0, 0), (1, 0, 1, 1)), False)
        # Each square is below 3/4 of the last but one, but not of the one just ahead.
        self.check(((1000, 0, 0, 0), (0, 900, 0, 0), (0, 0, 800, 0), (0, 0, 0, 700)), True)
        self.check(((1000, 0, 0, 0), (0, 900, 0, 0), (0, 0, 800, 0), (0, 0, 0, 692)), False)

    def test_squares_that_are_fractions(self):
        # The second upright has 3/2, the third 4/3.
        self.check(((1, 1, 0), (0, 1, 1), (1, 0, 1)), True)
        self.check(((1, 2), (3, 4)), False)

    def test_trim_rows_are_not_always_the_shortest(self):
        for rows in reckoning.TRIM_BUT_NOT_SHORTEST:
            self.check(rows, True)

    def test_all_kept_rows(self):
        for rows in reckoning.ALL_ROWS:
            self.check(rows, reckoning.trim_by_the_words(rows))

    def test_drawn_rows(self):
        seen = {True: 0, False: 0}
        for rows in reckoning.drawn_rows(23, 1500, (1, 2, 3, 9)):
            told = reckoning.trim_by_the_words(rows)
            seen[told] += len(rows) > 1
            self.check(rows, told)
        # Else the drawn rows would show one side alone.
        self.assertGreater(min(seen.values()), 50)


if __name__ == "__main__":
    unittest.main()
