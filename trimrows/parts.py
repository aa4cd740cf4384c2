"""What the modules share: whole numbers, and rows that are cleared by one another."""


def is_whole(thing):
    # Python counts a truth among its ints; the document doesn't.
    return isinstance(thing, int) and not isinstance(thing, bool)


def first_filled(row):
    """The first place where the row has no 0; None where it has noughts alone."""
    for place, number in enumerate(row):
        if number != 0:
            return place
    return None


def cleared(row, other, place):
    """The row, taken a number of times that is not 0, less so many of the other that it has 0 at the place.

    The other has no 0 at the place.
    """
    # Multiplying crosswise keeps to whole numbers: no share is ever rounded.
    return tuple([other[place] * mine - row[place] * its for mine, its in zip(row, other)])


def are_independent(rows):
    """True if no weights but noughts make nought of the rows."""
    left = list(rows)
    while len(left) > 0:
        first = left[0]
        place = first_filled(first)
        if place is None:
            return False
        # Only the first row has something at the place now, so weights that make nought give it a 0:
        # what is left to ask is asked of the others alone.
        left = [cleared(row, first, place) for row in left[1:]]
    return True
