"""A slow and plain reading of points [44] to [46], [54] and [55]."""

from functools import lru_cache
from itertools import permutations, product

from tests.plain_tables import plain_counts, plain_house, plain_is_top, plain_reading


@lru_cache(maxsize=None)
def counted(size, shape):
    """The bag of a house as pairs, ascending."""
    found = {}
    for rows in plain_house(size, shape):
        counts = plain_counts(size, plain_reading(rows))
        found[counts] = found.get(counts, 0) + 1
    return tuple(sorted(found.items()))


def plain_bag(size, shape):
    """The bag of a house, by a look at all its tables."""
    return dict(counted(size, shape))


def plain_sum(bags):
    """The sum of some bags, ascending."""
    total = {}
    for bag in bags:
        for counts, many in bag.items():
            total[counts] = total.get(counts, 0) + many
    return dict(sorted(total.items()))


@lru_cache(maxsize=None)
def orders(size):
    """All orders of 0 .. size - 1, each with -1 if an odd number of pairs of entries are ascending, otherwise 1."""
    return [(q, (-1) ** sum(1 for k in range(size) for j in range(k + 1, size) if q[k] < q[j]))
            for q in permutations(range(size))]


def plain_signed_sum(size, bag, m):
    """The signed sum of a bag at counts."""
    return sum(sign * bag.get(tuple(m[k] + (size - 1 - k) - q[k] for k in range(size)), 0)
               for q, sign in orders(size))


def falling_counts(size, total, most=None):
    """All falling counts with a sum."""
    if size == 0:
        if total == 0:
            yield ()
        return
    for first in range(total if most is None else min(total, most), -1, -1):
        for rest in falling_counts(size - 1, total - first, first):
            yield (first, *rest)


def plain_apart(size, bag):
    """What [54] says: by shapes, ascending, how often the houses occur, or None."""
    for counts in bag:
        if any(bag.get(other, 0) != bag[counts] for other in permutations(counts)):
            return None
    found = {}
    for total in sorted({sum(counts) for counts in bag}):
        for m in falling_counts(size, total):
            many = plain_signed_sum(size, bag, m)
            if many < 0:
                return None
            if many > 0:
                found[tuple(number for number in m if number)] = many
    return dict(sorted(found.items()))


def plain_fallen(size, shapes):
    """By shapes, the tops among all readings of tables of some houses, one behind another."""
    found = {}
    for tables in product(*[plain_house(size, shape) for shape in shapes]):
        letters = sum([plain_reading(rows) for rows in tables], ())
        if plain_is_top(size, letters):
            # The table of a top has only letters r + 1 in its row number r.
            shape = tuple(many for many in plain_counts(size, letters) if many)
            found[shape] = found.get(shape, 0) + 1
    return dict(sorted(found.items()))


@lru_cache(maxsize=None)
def plain_recordings(shape):
    """The number of recording tables, by taking off the greatest place, which stands at a corner."""
    if not shape:
        return 1
    total = 0
    for row, length in enumerate(shape):
        if row == len(shape) - 1 or shape[row + 1] < length:
            less = shape[:row] + (length - 1,) + shape[row + 1:]
            total += plain_recordings(tuple(number for number in less if number))
    return total
