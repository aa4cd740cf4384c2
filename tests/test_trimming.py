"""Promise 3.1, with 0.2 (a) and (b): trim rows, how they are made of the rows, and the rows of them."""

import unittest

import reckoning
from trimrows.things import are_rows, made_by
from trimrows.trimming import trim
from trimrows.uprights import are_trim, volumes

# What weights are tried for 0.2 (b), by the count of rows.
SPANS = {1: 9, 2: 6, 3: 3, 4: 2}


class TrimCase(unittest.TestCase):
    def check(self, rows):
        with self.subTest(rows=repr(rows)[:200]):
            told = trim(rows)
            self.assertIs(type(told), tuple)
            self.assertEqual(len(told), 3)
            self.check_kinds(rows, told)
            self.assertTrue(reckoning.trim_by_the_words(told[0]))
            self.assertIs(are_trim(told[0]), True)
            self.check_that_both_make_the_same(rows, *told)
            self.check_the_first(rows, told[0])

    def check_kinds(self, rows, told):
        for part, wide in zip(told, (len(rows[0]), len(rows), len(rows)), strict=True):
            self.assertIs(type(part), tuple)
            self.assertEqual(len(part), len(rows))
            for row in part:
                self.assertTrue(reckoning.are_whole(row))
                self.assertEqual(len(row), wide)

    def check_that_both_make_the_same(self, rows, trimmed, there, back):
        for row, weights in zip(trimmed, there, strict=True):
            self.assertEqual(made_by(rows, weights), row)
            self.assertEqual(reckoning.sum_of(rows, weights), row)
        for row, weights in zip(rows, back, strict=True):
            self.assertEqual(made_by(trimmed, weights), row)
            self.assertEqual(reckoning.sum_of(trimmed, weights), row)
        self.assertEqual(volumes(trimmed)[-1], volumes(rows)[-1])
        self.assertEqual(reckoning.last_volume(trimmed), reckoning.last_volume(rows))

    def check_the_first(self, rows, trimmed):
        times = 2 ** (len(rows) - 1)
        first = reckoning.square_of(trimmed[0])
        for base in (rows, trimmed):
            for weights in reckoning.some_weights(len(rows), SPANS[len(rows)]):
                self.assertLessEqual(first, times * reckoning.square_of(reckoning.sum_of(base, weights)))


class Trim(TrimCase):
    def test_one_row_is_told_as_it_is_or_turned(self):
        for row in ((5,), (-5,), (4, -6), (0, 0, 0, 0, 7), (reckoning.GREAT, 1)):
            trimmed, there, back = trim((row,))
            self.assertIn(trimmed, ((row,), (tuple(-number for number in row),)))
            self.assertIn(there, (((1,),), ((-1,),)))
            self.assertEqual(back, there)
            self.check((row,))

    def test_rows_that_are_trim_already(self):
        for rows in (
            ((1, 0), (0, 1)),
            ((2, 0), (1, 2)),
            ((2, 0), (-1, 2)),
            ((2, 0, 0), (1, 1, 1)),
            ((20, 0, 0, 0, 0), (0, 17, 3, 1, 1)),
            ((1, 1, 0), (0, 1, 1), (1, 0, 1)),
            ((1000, 0, 0, 0), (0, 900, 0, 0), (0, 0, 800, 0), (0, 0, 0, 700)),
            ((0, 0, 0, 3, 0), (3, 0, 0, 0, 0), (0, -3, 0, 0, 0), (0, 0, 3, 0, 0)),
        ):
            self.assertIs(are_trim(rows), True)
            self.check(rows)
        for rows in reckoning.TRIM_BUT_NOT_SHORTEST:
            self.check(rows)

    def test_ordinary_rows(self):
        for rows in reckoning.ORDINARY:
            self.check(rows)

    def test_rows_of_which_only_one_thing_keeps_them_from_being_trim(self):
        for rows in (
            ((1000, 0), (501, 1000)),
            ((1000, 0), (-501, 1000)),
            ((20, 0, 0, 0, 0), (10, 14, 1, 1, 1)),
            ((2, 0, 0), (0, 1, 1)),
            ((10, 0, 0), (0, 10, 0), (6, 0, 10)),
            ((2, 0, 0, 0, 0), (0, 2, 0, 0, 0), (0, 0, 2, 0, 0), (0, 0, 1, 1, 0)),
        ):
            self.assertIs(are_trim(rows), False)
            self.check(rows)

    def test_rows_from_the_longest_to_the_shortest(self):
        self.check(((0, 0, 0, 900), (0, 0, 80, 0), (0, 7, 0, 0), (1, 0, 0, 0)))
        self.check(((0, 0, 0, 900, 1), (0, 0, 80, 0, 1), (0, 7, 0, 0, 1), (1, 0, 0, 0, 1)))

    def test_four_rows_four_and_five_wide(self):
        many = [rows for rows in reckoning.drawn_rows(31, 200, (9, 1000)) if len(rows) == 4]
        self.assertEqual({len(rows[0]) for rows in many}, {4, 5})
        for rows in many:
            self.check(rows)

    def test_numbers_at_the_bounds(self):
        for rows in reckoning.AT_THE_BOUNDS:
            self.assertIs(are_rows(rows), True)
            self.check(rows)

    def test_rows_that_are_nearly_made_of_one_another(self):
        for rows in reckoning.NEARLY_MADE_OF_ONE_ANOTHER:
            self.assertIs(are_rows(rows), True)
            self.check(rows)

    def test_numbers_far_beyond_the_bounds(self):
        for rows in reckoning.FAR_BEYOND_THE_BOUNDS:
            self.check(rows)
        for rows in reckoning.drawn_rows(32, 20, (10 ** 18, 10 ** 150)):
            self.check(rows)

    def test_drawn_rows(self):
        for rows in reckoning.drawn_rows(33, 150, (1, 2, 5, 50, 1000)):
            self.check(rows)

    def test_rows_far_from_trim_that_make_short_ones(self):
        for rows in reckoning.ORDINARY:
            for times in (1, 17, -10 ** 12):
                self.check(reckoning.far_from_trim(rows, times))


if __name__ == "__main__":
    unittest.main()
