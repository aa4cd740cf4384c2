"""Promise 0.3: nothing handed in is changed, the same is told again, and what is told has no lists in it."""

import copy
import unittest

import reckoning
from trimrows.making import near, weights_of
from trimrows.shortest import shortest
from trimrows.things import are_rows, made_by, product
from trimrows.trimming import trim
from trimrows.uprights import are_trim, heights, shares, volumes

OF_ROWS = (shares, heights, volumes, are_trim, trim, shortest, are_rows)
OF_ROWS_AND_A_ROW = (weights_of, near)
TRUTHS = (are_trim, are_rows)


def is_told_kind(thing):
    if type(thing) is tuple:
        return all(is_told_kind(part) for part in thing)
    return thing is None or type(thing) is int


class Steadiness(unittest.TestCase):
    def check(self, function, handed):
        before = copy.deepcopy(handed)
        told = function(*handed)
        kept = copy.deepcopy(told)
        self.assertEqual(handed, before)
        self.assertEqual(function(*handed), kept)
        self.assertEqual(function(*before), kept)
        self.assertEqual(told, kept)
        self.assertEqual(handed, before)
        if function in TRUTHS:
            self.assertIs(type(told), bool)
        else:
            self.assertTrue(is_told_kind(told), repr(told)[:200])

    def test_functions_of_rows(self):
        for function in OF_ROWS:
            for rows in reckoning.ALL_ROWS:
                with self.subTest(function=function.__name__, rows=repr(rows)[:200]):
                    self.check(function, (rows,))

    def test_functions_of_rows_and_a_row(self):
        for function in OF_ROWS_AND_A_ROW:
            for rows in reckoning.ALL_ROWS:
                wide = len(rows[0])
                for row in (rows[-1], (0,) * wide, tuple(range(1, wide + 1)), (-reckoning.GREAT,) * wide):
                    with self.subTest(function=function.__name__, rows=repr(rows)[:200], row=repr(row)[:200]):
                        self.check(function, (rows, row))

    def test_product_and_made_by(self):
        for rows in reckoning.ALL_ROWS:
            self.check(product, (rows[0], rows[-1]))
            self.check(made_by, (rows, tuple(range(-1, len(rows) - 1))))

    def test_askings_in_turn_do_not_matter_to_one_another(self):
        askings = [(function, rows) for rows in reckoning.ORDINARY for function in OF_ROWS]
        first = [function(rows) for function, rows in askings]
        again = [function(rows) for function, rows in reversed(askings)]
        self.assertEqual(first, again[::-1])


class NothingIsRefused(unittest.TestCase):
    def test_rows_somewhat_beyond_the_bounds(self):
        five = ((3, 0, 0, 0, 0, 1), (0, 3, 0, 0, 0, 1), (0, 0, 3, 0, 0, 1), (0, 0, 0, 3, 0, 1), (0, 0, 0, 0, 3, 1))
        for rows in (five, five[:1], five[:2], ((1500, 1), (1, -2000))):
            trimmed, there, back = trim(rows)
            self.assertTrue(reckoning.trim_by_the_words(trimmed))
            self.assertEqual(tuple(made_by(rows, weights) for weights in there), trimmed)
            self.assertEqual(tuple(made_by(trimmed, weights) for weights in back), rows)
            self.assertIs(are_trim(rows), reckoning.trim_by_the_words(rows))
            self.assertEqual(weights_of(rows, rows[-1]), (0,) * (len(rows) - 1) + (1,))
            self.assertEqual(near(rows, rows[0]), (1,) + (0,) * (len(rows) - 1))
            self.assertEqual(volumes(rows)[-1], reckoning.last_volume(rows))
            square = reckoning.square_of(made_by(rows, shortest(rows)))
            for weights in reckoning.some_weights(len(rows), 2):
                self.assertLessEqual(square, reckoning.square_of(made_by(rows, weights)))


if __name__ == "__main__":
    unittest.main()
