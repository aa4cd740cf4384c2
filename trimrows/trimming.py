"""Trim rows that make the same as the given ones."""

from trimrows.making import weights_near, weights_of
from trimrows.things import made_by
from trimrows.uprights import is_high_enough, own_line


def less_what_is_near(rows, table, row):
    """The row less a row that the rows make and that lies near it."""
    if len(rows) == 0:
        return row
    made = made_by(rows, weights_near(rows, table, row))
    return tuple([mine - its for mine, its in zip(row, made)])


def trim_rows(rows):
    trimmed = []
    table = []
    waiting = list(rows)
    while len(waiting) > 0:
        row = less_what_is_near(trimmed, table, waiting.pop(0))
        line = own_line(trimmed, table, row)
        if is_high_enough(table, line):
            trimmed.append(row)
            table.append(line)
        else:
            # The row goes ahead of the last trim one. That makes a volume less than 3/4 of what it was and
            # leaves the others; all volumes are whole and from 1 on, so this comes to an end.
            table.pop()
            waiting = [row, trimmed.pop()] + waiting
    return tuple(trimmed)


def all_weights(rows, others):
    """For each of the others, the weights that make it of the rows."""
    return tuple([weights_of(rows, other) for other in others])


def trim(rows):
    """Trim rows, the weights that make them of the rows, and those that make the rows of them."""
    trimmed = trim_rows(rows)
    return (trimmed, all_weights(rows, trimmed), all_weights(trimmed, rows))
