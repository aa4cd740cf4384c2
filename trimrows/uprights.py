"""The uprights of rows: shares, heights, volumes, and whether rows are trim.

All is reckoned in whole numbers. In the place of a row's product with an upright stands this product times
the volume of the rows ahead of the upright, which is always whole. The line of a row holds these for each
upright ahead and, as its last, for the row's own upright: that one is the row's volume. A table holds the
lines of all rows.
"""

from trimrows.things import product


def common_divisor(one, other):
    while other != 0:
        rest = one % other
        one = other
        other = rest
    return one


def fraction(upper, lower):
    """The fraction that has the value of upper divided by lower; lower is from 1 on."""
    divisor = common_divisor(abs(upper), lower)
    return (upper // divisor, lower // divisor)


def beyond(number, one, other, table):
    """A product of two rows, less what they have along the table's uprights, times the table's last volume.

    one and other are the lines of the two rows, at least as far as the table's uprights go.
    """
    ahead = 1
    for place, line in enumerate(table):
        volume = line[place]
        # The division leaves no rest: what comes of it is a determinant of products of the rows.
        number = (volume * number - one[place] * other[place]) // ahead
        ahead = volume
    return number


def line_along(rows, table, row):
    """The line of any row, along the uprights of the rows, whose table is given."""
    line = []
    for place, other in enumerate(rows):
        line.append(beyond(product(row, other), line, table[place], table[:place]))
    return line


def own_line(rows, table, row):
    """The line of the row that comes next behind the rows: along their uprights and its own."""
    line = line_along(rows, table, row)
    return line + [beyond(product(row, row), line, line, table)]


def table_of(rows):
    table = []
    for place, row in enumerate(rows):
        table.append(own_line(rows[:place], table, row))
    return table


def volume_at(table, place):
    # Ahead of the first row nothing is multiplied, which is 1.
    return table[place][place] if place >= 0 else 1


def shares_of_line(table, line):
    return tuple([fraction(line[place], volume_at(table, place)) for place in range(len(line) - 1)])


def shares(rows):
    """For each row its shares of the uprights ahead."""
    table = table_of(rows)
    return tuple([shares_of_line(table, line) for line in table])


def heights(rows):
    """The squares of the uprights."""
    table = table_of(rows)
    return tuple([fraction(line[-1], volume_at(table, place - 1)) for place, line in enumerate(table)])


def volumes(rows):
    """For each row the squares of the uprights up to its own, multiplied."""
    return tuple([line[-1] for line in table_of(rows)])


def leans_little(table, line):
    """True if each share of the line's row is at most 1/2, and at least -1/2."""
    return all([2 * abs(line[place]) <= volume_at(table, place) for place in range(len(line) - 1)])


def is_high_enough(table, line):
    """True if the square of the upright that is the line's own reaches the bound of trim rows.

    The table holds the lines ahead of it, and may hold others behind them.
    """
    own = len(line) - 1
    if own == 0:
        return True
    along = line[own - 1]
    volume = volume_at(table, own - 1)
    # The bound of the document, with both sides taken four times and freed of what they are divided by.
    return 4 * (line[own] * volume_at(table, own - 2) + along * along) >= 3 * volume * volume


def are_trim(rows):
    table = table_of(rows)
    return all([leans_little(table, line) and is_high_enough(table, line) for line in table])
