"""Given rows, the product of two rows, and the row that weights make."""

from trimrows.parts import are_independent, is_whole

MOST_ROWS = 4
WIDEST = 5
GREATEST = 1000


def is_given_number(thing):
    return is_whole(thing) and -GREATEST <= thing <= GREATEST


def is_given_row(thing):
    if not isinstance(thing, tuple) or not 1 <= len(thing) <= WIDEST:
        return False
    return all([is_given_number(part) for part in thing])


def are_as_wide(rows):
    return all([len(row) == len(rows[0]) for row in rows])


def are_rows(thing):
    """True if the thing, whatever it is, is given rows."""
    if not isinstance(thing, tuple) or not 1 <= len(thing) <= MOST_ROWS:
        return False
    if not all([is_given_row(part) for part in thing]):
        return False
    return are_as_wide(thing) and are_independent(thing)


def product(one, other):
    """The sum of what two rows have at each place, multiplied."""
    return sum([mine * its for mine, its in zip(one, other)])


def column(rows, place):
    return tuple([row[place] for row in rows])


def made_by(rows, weights):
    """The row that the weights, one for each of the rows, make."""
    return tuple([product(weights, column(rows, place)) for place in range(len(rows[0]))])
