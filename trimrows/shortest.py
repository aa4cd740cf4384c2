"""A shortest one of all rows that are made, but nought."""

from trimrows.things import made_by, product
from trimrows.trimming import trim
from trimrows.uprights import volumes


def square(row):
    return product(row, row)


def enclosed(rows):
    """The last volume of the rows; 1 where there are none."""
    return volumes(rows)[-1] if len(rows) > 0 else 1


def greatest_weight(rows, place, limit):
    """A weight that the row at the place doesn't go beyond in any made row whose square is at most the limit."""
    # Were the row the last, the square of its upright would be what all enclose, divided by what the others
    # do; and a made row's square is at least that, times the weight's square.
    whole = enclosed(rows)
    others = enclosed(rows[:place] + rows[place + 1:])
    weight = 0
    while (weight + 1) * (weight + 1) * whole <= limit * others:
        weight += 1
    return weight


def with_one_more(found, greatest):
    longer = []
    for weights in found:
        longer.extend([weights + (weight,) for weight in range(-greatest, greatest + 1)])
    return longer


def weights_within(bounds):
    """All weights, each at most its bound and at least minus that, but those that are all 0."""
    found = [()]
    for greatest in bounds:
        found = with_one_more(found, greatest)
    return [weights for weights in found if any([weight != 0 for weight in weights])]


def shortest_of_trim(rows):
    """Weights, not all 0, that make a shortest row of trim rows."""
    limit = min([square(row) for row in rows])
    bounds = [greatest_weight(rows, place, limit) for place in range(len(rows))]
    return min(weights_within(bounds), key=lambda weights: square(made_by(rows, weights)))


def shortest(rows):
    """Weights, not all 0, that make a shortest row of all that such weights make."""
    # Of trim rows small weights make a shortest row, however great the numbers are: few are to be tried.
    told = trim(rows)
    return made_by(told[1], shortest_of_trim(told[0]))
