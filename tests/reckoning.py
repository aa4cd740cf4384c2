"""What several tests use: the document's words reckoned with Python's fractions, another way than the program's."""

import itertools
import math
import random
from fractions import Fraction

HALF = Fraction(1, 2)
GREAT = 10 ** 120 + 7


def dot(one, other):
    return sum((a * b for a, b in zip(one, other, strict=True)), 0)


def square_of(row):
    return dot(row, row)


def sum_of(rows, weights):
    """The row that the weights make."""
    return tuple(dot(weights, place) for place in zip(*rows, strict=True))


def less(row, other, times=1):
    return tuple(a - times * b for a, b in zip(row, other, strict=True))


def uprights_and_shares(rows):
    uprights = []
    shares = []
    for row in rows:
        own = tuple(Fraction(dot(row, upright)) / square_of(upright) for upright in uprights)
        rest = tuple(Fraction(number) for number in row)
        for upright, share in zip(uprights, own):
            rest = less(rest, upright, share)
        uprights.append(rest)
        shares.append(own)
    return uprights, shares


def squares_of_uprights(rows):
    return [square_of(upright) for upright in uprights_and_shares(rows)[0]]


def last_volume(rows):
    return math.prod(squares_of_uprights(rows))


def trim_by_the_words(rows):
    uprights, shares = uprights_and_shares(rows)
    if any(abs(share) > HALF for own in shares for share in own):
        return False
    for ahead, upright, own in zip(uprights, uprights[1:], shares[1:]):
        if square_of(upright) < (Fraction(3, 4) - own[-1] ** 2) * square_of(ahead):
            return False
    return True


def fractional_weights(rows, row):
    """The fractions that make the row of the rows; None where none do."""
    uprights, shares = uprights_and_shares(rows)
    rest = tuple(Fraction(number) for number in row)
    found = []
    for place in reversed(range(len(rows))):
        weight = dot(rest, uprights[place]) / square_of(uprights[place])
        rest = less(rest, rows[place], weight)
        found.insert(0, weight)
    return None if any(rest) else found


def some_weights(count, span):
    """All weights from -span to span, but the noughts alone."""
    for weights in itertools.product(range(-span, span + 1), repeat=count):
        if any(weights):
            yield weights


def are_whole(thing):
    """True if the thing is a tuple of whole numbers."""
    return type(thing) is tuple and all(type(part) is int for part in thing)


def drawn_rows(seed, many, numbers):
    """Rows of 1 to 4 rows, 1 to 5 wide, none made of the others; the same at each run."""
    source = random.Random(seed)
    found = []
    while len(found) < many:
        count = source.randint(1, 4)
        wide = source.randint(count, 5)
        most = source.choice(numbers)
        rows = tuple(tuple(source.randint(-most, most) for _ in range(wide)) for _ in range(count))
        if independent(rows):
            found.append(rows)
    return found


def independent(rows):
    uprights = []
    for row in rows:
        rest = tuple(Fraction(number) for number in row)
        for upright in uprights:
            rest = less(rest, upright, dot(rest, upright) / square_of(upright))
        if not any(rest):
            return False
        uprights.append(rest)
    return True


def with_added(rows, to, added, times):
    """Rows that make the same: one of them with another one added so many times."""
    changed = list(rows)
    changed[to] = tuple(a + times * b for a, b in zip(rows[to], rows[added], strict=True))
    return tuple(changed)


def far_from_trim(rows, times):
    """Rows that make the same, each added to the next and back again."""
    for place in range(len(rows)):
        for other in range(len(rows)):
            if place != other:
                rows = with_added(rows, place, other, times + 3 * place - other)
    return rows


# These are trim, but the first row is not a shortest one; of all but the first of these, no row is.
TRIM_BUT_NOT_SHORTEST = (
    ((10, 0), (5, 8)),
    ((-1, 0, 1, -1, -1), (0, -1, 0, 1, 1), (1, 1, 0, 0, 1), (0, 1, -1, 1, 0)),
    ((-1, 1, 0, -2, 1), (-1, -1, -2, -1, 0), (1, 1, 0, 2, 1), (2, 0, -1, -1, 1)),
    ((1, -1, -1, 0, -1), (0, 0, 1, -1, 1), (0, 1, 0, 1, 1)),
    ((50, 552, 145, 612), (586, 580, -333, -140), (-35, -117, 803, -41), (-770, 398, 15, 271)),
)

# Of every count and width at least one, with noughts, negative numbers and numbers at the bounds.
ORDINARY = (
    ((3,),),
    ((-7,),),
    ((4, -6),),
    ((0, 0, 5),),
    ((1, 2, 3, 4),),
    ((1, -2, 3, -4, 5),),
    ((1, 0), (0, 1)),
    ((1, 2), (3, 4)),
    ((201, 37), (1648, 297)),
    ((6, 4, 2), (3, -9, 12)),
    ((1, 2, 3, 4), (4, 3, 2, 2)),
    ((2, 0, 0, 0, 0), (1, 0, 0, 0, 3)),
    ((1, 1, 1), (-1, 0, 2), (3, 5, 6)),
    ((0, 0, 1), (0, 1, 0), (1, 0, 0)),
    ((15, 23, 11, 4), (46, 15, 3, -8), (32, 1, 1, 90)),
    ((1, 2, 3, 4, 5), (5, 4, 3, 2, 2), (0, 0, 1, 0, 7)),
    ((2, 0, 0, 0), (0, 3, 0, 0), (0, 0, 5, 0), (1, 1, 1, 1)),
    ((105, 821, 404, 328), (881, 667, 644, 927), (181, 483, 87, 500), (893, 834, 732, 441)),
    ((1, 2, 3, 4, 5), (5, 4, 3, 2, 2), (0, 0, 1, 0, 7), (9, -9, 9, -9, 9)),
)

AT_THE_BOUNDS = (
    ((1000,),),
    ((-1000,),),
    ((1000, -1000), (1000, 1000)),
    ((-1000, -1000, -1000, -1000, -1000),),
    ((1000, 1000, 1000, 1000, 1000), (-1000, 1000, 1000, 1000, 1000),
     (-1000, -1000, 1000, 1000, 1000), (-1000, -1000, -1000, 1000, 1000)),
)

NEARLY_MADE_OF_ONE_ANOTHER = (
    ((1000, 999), (999, 998)),
    ((1000, 1000, 1000, 1000, 1000), (1000, 1000, 1000, 1000, 999)),
    ((1000, 999, 0, 0), (999, 998, 0, 0), (0, 0, 1000, 999), (0, 0, 999, 998)),
    # The last row is the sum of the first three, but for 1 at one place.
    ((300, 301, 302, 303), (-17, 400, 5, 6), (250, -251, 252, -253), (533, 450, 559, 57)),
    ((1000, 998, 996, 994, 992), (999, 997, 995, 993, 991), (998, 996, 994, 992, 989), (997, 995, 993, 990, 988)),
)

FAR_BEYOND_THE_BOUNDS = (
    ((GREAT,),),
    ((GREAT, GREAT + 1), (GREAT + 2, GREAT + 5)),
    ((GREAT, 1, 0), (GREAT * GREAT + 3, 0, 1)),
    ((1, 0, 0, GREAT), (0, 1, 0, GREAT // 3), (0, 0, 1, GREAT // 7 + 1)),
    ((1, 0, 0, 0, GREAT), (0, 1, 0, 0, -GREAT // 3), (0, 0, 1, 0, GREAT // 7 + 1), (0, 0, 0, 1, GREAT // 11)),
    ((GREAT ** 3, 5, -GREAT, 2, 1), (7, GREAT, 1, 1, -GREAT), (1, 1, 1, 1, 1), (GREAT, -GREAT, 0, 4, GREAT ** 2)),
    ((1001, -1001), (1500, 2000)),
)

ALL_ROWS = ORDINARY + AT_THE_BOUNDS + NEARLY_MADE_OF_ONE_ANOTHER + FAR_BEYOND_THE_BOUNDS + TRIM_BUT_NOT_SHORTEST
