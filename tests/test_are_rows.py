"""Promises 1.1, 0.4 and 0.3: which things are given rows."""

import copy
import itertools
import unittest

from trimrows.things import are_rows

# Ones and noughts, none made of the others: a stock of rows 5 wide.
UNITS = (
    (1, 0, 0, 0, 0),
    (0, 1, 0, 0, 0),
    (0, 0, 1, 0, 0),
    (0, 0, 0, 1, 0),
    (0, 0, 0, 0, 1),
)


def nested_tuple(core, deep):
    for _ in range(deep):
        core = (core,)
    return core


def nested_list(core, deep):
    for _ in range(deep):
        core = [core]
    return core


def nested_by_turns(core, deep):
    for step in range(deep):
        core = (core, core) if step < 3 else ((core,) if step % 2 else [core])
    return core


def determinant(rows):
    """By all orders of the places: another way than the program's."""
    wide = len(rows)
    total = 0
    for order in itertools.permutations(range(wide)):
        turned = sum(order[a] > order[b] for a in range(wide) for b in range(a + 1, wide))
        part = -1 if turned % 2 else 1
        for row, place in zip(rows, order):
            part *= row[place]
        total += part
    return total


def some_determinant_is_not_0(rows):
    """True if the rows have a square part, all rows of it, that encloses something."""
    for places in itertools.combinations(range(len(rows[0])), len(rows)):
        if determinant(tuple(tuple(row[k] for k in places) for row in rows)) != 0:
            return True
    return False


class AreRowsCase(unittest.TestCase):
    def all_are(self, things):
        for thing in things:
            with self.subTest(thing=repr(thing)[:200]):
                self.assertIs(are_rows(thing), True)

    def none_are(self, things):
        for number, thing in enumerate(things):
            with self.subTest(number=number):
                self.assertIs(are_rows(thing), False)


class GivenRows(AreRowsCase):
    def test_every_count_and_every_width(self):
        for count in range(1, 5):
            for wide in range(count, 6):
                rows = tuple(unit[:wide] for unit in UNITS[:count])
                with self.subTest(count=count, wide=wide):
                    self.assertIs(are_rows(rows), True)

    def test_ordinary_rows(self):
        self.all_are([
            ((3,),),
            ((-7,),),
            ((1, 2), (3, 4)),
            ((1, 1, 1), (-1, 0, 2), (3, 5, 6)),
            ((2, 0, 0, 0), (0, 3, 0, 0), (0, 0, 5, 0), (1, 1, 1, 1)),
            ((1, 2, 3, 4, 5), (5, 4, 3, 2, 2), (0, 0, 1, 0, 7), (9, -9, 9, -9, 9)),
        ])

    def test_numbers_at_the_bound(self):
        self.all_are([
            ((1000,),),
            ((-1000,),),
            ((1000, -1000), (1000, 1000)),
            ((-1000, -1000, -1000, -1000, -1000),),
            ((1000, 1000, 1000, 1000, 1000), (-1000, 1000, 1000, 1000, 1000),
             (-1000, -1000, 1000, 1000, 1000), (-1000, -1000, -1000, 1000, 1000)),
        ])

    def test_rows_that_begin_with_noughts(self):
        self.all_are([
            ((0, 1), (1, 0)),
            ((0, 0, 1), (0, 1, 0), (1, 0, 0)),
            ((0, 0, 0, 0, 1), (0, 0, 0, 1, 0), (0, 0, 1, 0, 0), (0, 1, 0, 0, 0)),
            ((0, 0, 0, 2, 1), (0, 0, 0, 3, 1)),
            ((1, 1, 0), (1, 1, 1)),
            ((1, 1, 0, 0), (1, 1, 0, 1), (1, 1, 1, 0)),
        ])

    def test_rows_that_are_almost_made_of_one_another(self):
        self.all_are([
            ((1000, 999), (999, 998)),
            ((1000, 1000, 1000, 1000, 1000), (1000, 1000, 1000, 1000, 999)),
            ((1000, 999, 0, 0), (999, 998, 0, 0), (0, 0, 1000, 999), (0, 0, 999, 998)),
            # The last row is the sum of the first three, but for 1 at one place.
            ((300, 301, 302, 303), (-17, 400, 5, 6), (250, -251, 252, -253), (533, 450, 559, 57)),
        ])

    def test_a_row_that_is_a_fraction_of_another_place_by_place_but_one(self):
        self.all_are([((2, 4, 6), (1, 2, 4)), ((6, 9), (4, 7))])


class NotGivenRows(AreRowsCase):
    def test_no_rows_and_five_rows(self):
        self.none_are([
            (),
            UNITS,
            ((1,), (2,), (3,), (4,), (5,)),
            UNITS + ((1, 1, 1, 1, 1),),
        ])

    def test_an_empty_row_and_a_row_six_wide(self):
        self.none_are([
            ((),),
            ((), ()),
            ((1, 2), ()),
            ((), (1, 2)),
            ((1, 2, 3, 4, 5, 6),),
            ((1, 0, 0, 0, 0, 0), (0, 1, 0, 0, 0, 0)),
        ])

    def test_rows_that_do_not_have_as_many_numbers(self):
        self.none_are([
            ((1, 0), (0, 1, 0)),
            ((1, 0, 0), (0, 1)),
            ((1,), (0, 1)),
            ((1, 0, 0), (0, 1, 0), (0, 0, 1, 0)),
            ((1, 0, 0), (0, 1), (0, 0, 1)),
            ((1, 0, 0, 0), (0, 1, 0, 0), (0, 0, 1, 0), (0, 0, 0, 1, 0)),
        ])

    def test_numbers_beyond_the_bound(self):
        for number in (1001, -1001, 10 ** 30, -(10 ** 30), 10 ** 5000, -(10 ** 5000), 2 ** 64, -(2 ** 63)):
            self.none_are([
                ((number,),),
                ((number, 1),),
                ((1, number),),
                ((1, 0), (0, number)),
                ((0, 1), (1, 0, number)),
                ((1, 0, 0, 0, 0), (0, 1, 0, 0, 0), (0, 0, 1, 0, 0), (0, 0, 0, 1, number)),
            ])

    def test_a_row_of_noughts(self):
        self.none_are([
            ((0,),),
            ((0, 0, 0, 0, 0),),
            ((1, 2), (0, 0)),
            ((0, 0), (1, 2)),
            ((1, 0, 0), (0, 0, 0), (0, 0, 1)),
        ])

    def test_the_same_row_twice(self):
        self.none_are([
            ((5,), (5,)),
            ((1, 2), (1, 2)),
            ((1, 2, 3), (0, 1, 0), (1, 2, 3)),
            ((0, 0, 0, 7), (1, 0, 0, 0), (0, 1, 0, 0), (0, 0, 0, 7)),
        ])

    def test_a_multiple_of_another(self):
        self.none_are([
            ((1, 2), (2, 4)),
            ((1, 2), (-1, -2)),
            ((2, 4), (3, 6)),
            ((0, 6, 9), (0, 4, 6)),
            ((1, -1, 1, -1, 1), (-1000, 1000, -1000, 1000, -1000)),
            ((999, 666), (-333, -222)),
        ])

    def test_a_row_that_is_made_of_others(self):
        self.none_are([
            ((1, 0, 0), (0, 1, 0), (3, -4, 0)),
            ((1, 2, 3), (4, 5, 6), (7, 8, 9)),
            ((5, 7, 9), (1, 2, 3), (4, 5, 6)),
            ((300, 301, 302, 303), (-17, 400, 5, 6), (250, -251, 252, -253), (533, 450, 559, 56)),
            ((1, 1, 0, 0, 0), (0, 1, 1, 0, 0), (0, 0, 1, 1, 0), (1, 0, 0, 1, 0)),
        ])

    def test_rows_made_of_one_another_by_no_whole_number_alone(self):
        # Twice the third is three times the first and five times the second.
        self.none_are([((2, 0, 4), (0, 2, 2), (3, 5, 11))])

    def test_more_rows_than_numbers(self):
        self.none_are([
            ((1,), (2,)),
            ((1,), (0,), (3,)),
            ((1, 0), (0, 1), (1, 1)),
            ((1, 0), (0, 1), (997, -991)),
            ((1, 0, 0), (0, 1, 0), (0, 0, 1), (1, 1, 1)),
            ((1000, 1), (1, 1000), (999, 2), (3, 998)),
        ])


class AgainstDeterminants(unittest.TestCase):
    def compare(self, numbers, count, wide):
        for rows in itertools.product(itertools.product(numbers, repeat=wide), repeat=count):
            if are_rows(rows) is not some_determinant_is_not_0(rows):
                self.fail(f"{rows}")

    def test_all_small_rows(self):
        self.compare(range(-4, 5), 1, 3)
        self.compare(range(-3, 4), 2, 2)
        self.compare((-2, 0, 1), 2, 3)
        self.compare((-1, 0, 1), 3, 3)
        self.compare((0, 1), 3, 4)
        self.compare((0, 3), 2, 5)

    def test_four_rows(self):
        self.compare((0, 1), 4, 3)
        self.compare((-1, 2), 4, 4)


class OtherKinds(AreRowsCase):
    def test_things_that_are_no_tuples(self):
        self.none_are([0, 1, -5, 10 ** 400, True, False, None, "", "rows", "((1,),)", [], [1], [[1]], [(1,)]])

    def test_lists_in_the_place_of_tuples(self):
        self.none_are([
            [(1, 0), (0, 1)],
            [[1, 0], [0, 1]],
            ([1, 0], [0, 1]),
            ((1, 0), [0, 1]),
            ([1, 0], (0, 1)),
            ([],),
            ((1, [0]), (0, 1)),
            (([1], 0), (0, [1])),
            (([],),),
        ])

    def test_tuples_without_rows(self):
        self.none_are([(1,), (1, 2), (True,), (None,), ("",), ("ab",), ("ab", "cd"), (None, (1,)), ((1,), 2)])

    def test_other_things_in_the_place_of_a_number(self):
        for thing in (True, False, None, "", "1", "ab", (), (1,), (1, 2), [], [1], ((1,),)):
            self.none_are([
                ((thing,),),
                ((thing, 0), (0, 1)),
                ((1, thing), (0, 1)),
                ((1, 0), (thing, 1)),
                ((1, 0), (0, thing)),
                ((1, 0, 0, 0, 0), (0, 1, 0, 0, 0), (0, 0, 1, 0, 0), (0, 0, 0, 1, thing)),
            ])

    def test_deep_nestings(self):
        cores = (1, 0, True, None, "a", (), [], (1, 0), ((1, 0), (0, 1)), [[1, 0], [0, 1]])
        for core in cores:
            for deep in (3, 4, 29, 30, 31, 35):
                self.none_are([
                    nested_tuple(core, deep),
                    nested_list(core, deep),
                    nested_by_turns(core, deep),
                    ((1, 0), (0, nested_tuple(core, deep))),
                    ((1, 0), (0, nested_list(core, deep))),
                    ((1, 0), nested_tuple(core, deep)),
                    ((1, 0), nested_list(core, deep)),
                ])

    def test_only_two_tuples_deep_are_rows(self):
        self.assertIs(are_rows(nested_tuple(1, 1)), False)
        self.assertIs(are_rows(nested_tuple(1, 2)), True)
        self.assertIs(are_rows(nested_tuple(1, 3)), False)


class Steadiness(unittest.TestCase):
    def test_nothing_is_changed_and_the_same_is_told_again(self):
        things = [
            ((1, 2), (3, 4)),
            ((1, 2), (2, 4)),
            ((0, 0, 1), (0, 1, 0), (1, 0, 0)),
            [[3, 1], [2, 0]],
            [(3, 1), (2, 0)],
            ([3, 1], [2, 0]),
            ((3, 1), (2, [0, 5])),
            nested_list([2, 1], 30),
            nested_by_turns(2, 30),
        ]
        for number, thing in enumerate(things):
            with self.subTest(number=number):
                before = copy.deepcopy(thing)
                told = are_rows(thing)
                self.assertEqual(thing, before)
                self.assertIs(are_rows(thing), told)
                self.assertIs(are_rows(before), told)

    def test_other_askings_between_do_not_matter(self):
        self.assertIs(are_rows(((1, 2), (3, 4))), True)
        self.assertIs(are_rows(((1, 2), (2, 4))), False)
        self.assertIs(are_rows(((True, 2), (3, 4))), False)
        self.assertIs(are_rows(((1, 2), (3, 4))), True)
        # Equal to the one above in Python's eyes, but of other kinds.
        self.assertIs(are_rows(((True, 2), (3, 4))), False)


if __name__ == "__main__":
    unittest.main()
