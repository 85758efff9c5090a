"""A slow and plain reading of points [14] to [17], [19], [26] and [27]."""

from functools import lru_cache
from itertools import product

from tests.plain import plain_spare

# The most letters of the small shapes of which all tables are listed.
SMALL = {2: 7, 3: 5, 4: 4, 5: 4, 6: 3}


def plain_is_table(size, rows):
    """Whether rows of integers are a table, without a look at how many letters it has."""
    for number, row in enumerate(rows):
        if not row or any(letter not in range(1, size + 1) for letter in row) or list(row) != sorted(row):
            return False
        if number > 0:
            above = rows[number - 1]
            if len(row) > len(above) or any(row[k] <= above[k] for k in range(len(row))):
                return False
    return True


def plain_reading(rows):
    """The letters of the last row, then those of the row above, and so on."""
    letters = ()
    for row in rows:
        letters = tuple(row) + letters
    return letters


def plain_insert(rows, letter):
    """Insert a letter into a list of lists; the number of the row that has grown."""
    for number in range(len(rows)):
        greater = [k for k in range(len(rows[number])) if rows[number][k] > letter]
        if not greater:
            rows[number].append(letter)
            return number
        rows[number][greater[0]], letter = letter, rows[number][greater[0]]
    rows.append([letter])
    return len(rows) - 1


def plain_table(letters):
    """The rows of the table of a word, and its recording."""
    rows, places = [], []
    for place, letter in enumerate(letters):
        number = plain_insert(rows, letter)
        if number == len(places):
            places.append([])
        places[number].append(place)
    return tuple(map(tuple, rows)), tuple(map(tuple, places))


def plain_shadow(size, rows, letter):
    """How many letters of each row are not greater than a letter."""
    return tuple(sum(1 for held in rows[k] if held <= letter) if k < len(rows) else 0 for k in range(size))


def plain_counts(size, letters):
    """How often each letter occurs."""
    return tuple(list(letters).count(letter) for letter in range(1, size + 1))


def plain_full(size, rows):
    """How many columns have as many letters as the size says."""
    width = len(rows[0]) if rows else 0
    return sum(1 for k in range(width) if sum(1 for row in rows if k < len(row)) == size)


def plain_trimmed(size, rows):
    """Without as many letters at the beginning of each row as row number size - 1 has."""
    many = len(rows[size - 1]) if len(rows) == size else 0
    return tuple(tuple(row[many:]) for row in rows if len(row) > many)


def plain_shapes(size, most, longest=None):
    """All shapes of a size with at most as many letters."""
    yield ()
    if size == 0:
        return
    for first in range(1, min(most, most if longest is None else longest) + 1):
        for rest in plain_shapes(size - 1, most - first, first):
            yield (first, *rest)


def plain_fillings(size, shape):
    """All tables of a size and a shape as tuples of rows, in no order that counts."""
    found = [[]]
    for length in shape:
        rows = [row for row in product(range(1, size + 1), repeat=length) if list(row) == sorted(row)]
        found = [[*above, row] for above in found for row in rows
                 if not above or all(row[k] > above[-1][k] for k in range(length))]
    return [tuple(rows) for rows in found]


def plain_order(size, rows):
    """What the tables of a house are ordered by."""
    return [plain_shadow(size, rows, letter) for letter in range(size - 1, 0, -1)]


def plain_house(size, shape):
    """All tables of a house in their order."""
    return sorted(plain_fillings(size, shape), key=lambda rows: plain_order(size, rows))


def plain_count(size, shape):
    """The number of tables by the products of [26]."""
    above = below = 1
    for row, length in enumerate(shape):
        for column in range(length):
            above *= size + column - row
            below *= 1 + (length - column - 1) + sum(1 for lower in shape[row + 1:] if lower > column)
    return above // below


def plain_move(size, letters, move):
    """The letters that come of a move of the right form, or None."""
    kind, k = move
    column = tuple(range(size, 0, -1))
    if kind == "in":
        return letters[:k] + column + letters[k:] if k <= len(letters) else None
    if kind == "out":
        return letters[:k] + letters[k + size:] if letters[k:k + size] == column else None
    if k + 3 > len(letters):
        return None
    a, b, c = letters[k], letters[k + 1], letters[k + 2]
    if kind == "first":
        return letters[:k] + (b, a, c) + letters[k + 3:] if a <= c < b or b <= c < a else None
    return letters[:k] + (a, c, b) + letters[k + 3:] if b < a <= c or c < a <= b else None


def plain_is_top(size, letters):
    """Whether no i + 1 is left over."""
    return all(not plain_spare(letters, i)[1] for i in range(1, size))


def plain_top(shape):
    """The rows of the only table of a house that is a top, as [25] says."""
    return tuple((number + 1,) * length for number, length in enumerate(shape))


def plain_joined(size, shape, behind):
    """By shapes, the tables of the first house that with the top of the second one behind make a top."""
    found = {}
    for rows in plain_house(size, shape):
        letters = plain_reading(rows) + plain_reading(plain_top(behind))
        if plain_is_top(size, letters):
            # The table of a top has only letters r + 1 in its row number r.
            told = tuple(many for many in plain_counts(size, letters) if many)
            found.setdefault(told, []).append(rows)
    return {told: tuple(found[told]) for told in sorted(found)}


@lru_cache(maxsize=None)
def plain_kostka(lengths, counts):
    """How many tables have these lengths of rows and these counts, by taking out the greatest letter."""
    if not counts:
        return 1 if not any(lengths) else 0
    total = 0
    # The places of the greatest letter stand at the ends of rows, and none of them above another letter.
    spans = [range(min(counts[-1], lengths[k] - (lengths[k + 1] if k + 1 < len(lengths) else 0)) + 1)
             for k in range(len(lengths))]
    for taken in picks(spans, counts[-1]):
        total += plain_kostka(tuple(length - gone for length, gone in zip(lengths, taken)), counts[:-1])
    return total


def picks(spans, total):
    """All ways to pick one number of each span so that they sum to the total."""
    if not spans:
        if total == 0:
            yield ()
        return
    for number in spans[0]:
        if number <= total:
            for rest in picks(spans[1:], total - number):
                yield (number, *rest)
