"""The weights that make a row, or one that lies near it."""

from trimrows.things import made_by
from trimrows.uprights import line_along, table_of


def nearest_whole(upper, lower):
    """A whole number that is at most 1/2 away from upper divided by lower; lower is from 1 on."""
    return (2 * upper + lower) // (2 * lower)


def weights_near(rows, table, row):
    """The weights that near tells, where the table of the rows is at hand."""
    line = line_along(rows, table, row)
    weights = []
    # From the last upright on: a row has nothing along the uprights behind its own, so taking some of it
    # away leaves what was settled there as it was.
    for place in range(len(rows) - 1, -1, -1):
        weight = nearest_whole(line[place], table[place][place])
        line = [mine - weight * its for mine, its in zip(line, table[place])]
        weights.insert(0, weight)
    return tuple(weights)


def near(rows, row):
    """Weights that make a row from which the given row is, along each upright, at most half of it away."""
    return weights_near(rows, table_of(rows), row)


def weights_of(rows, row):
    """The weights that make the row; None where there are none."""
    # Of a row that is made, the share of the last upright is the last weight itself, which near finds
    # unrounded, and so on to the first: if near's weights don't make the row, none do.
    weights = near(rows, row)
    return weights if made_by(rows, weights) == row else None
