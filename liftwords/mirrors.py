"""Mirrored words, tables and rows of deeds, words turned at indexes, and what rows of indexes make of an order."""

from liftwords.deeds import check_row
from liftwords.errors import BadRow
from liftwords.kinds import is_between, is_listing
from liftwords.tables import bumped
from liftwords.words import Word, bracketed, check_index, check_size

MOST_INDEXES = 40


def check_indexes(size, row):
    """Refuse any value that is no row of indexes of the size."""
    if not is_listing(row) or len(row) > MOST_INDEXES:
        raise BadRow(None)
    for place, i in enumerate(row):
        if not is_between(i, 1, size - 1):
            raise BadRow(place)


def mirrored(word):
    """The word turned end for end, with its least letters in the place of the greatest ones."""
    return Word(word.size, [word.size + 1 - letter for letter in word.letters[::-1]])


def mirrored_row(size, row):
    """The row of deeds that does on mirrored words what a row of deeds does on words."""
    check_size(size)
    check_row(size, row)
    return tuple([deed - size if deed > 0 else deed + size for deed in row])


def turned_letters(letters, i):
    """The letters with as many i left over as i + 1 were left over before, and the other way round."""
    pairs, lows, highs = bracketed(letters, i)
    held = list(letters)
    for number, place in enumerate(lows + highs):
        held[place] = i if number < len(highs) else i + 1
    return held


def turned(word, i):
    """The word turned at an index."""
    check_index(word.size, i)
    return Word(word.size, turned_letters(word.letters, i))


def turned_by(word, row):
    """The word turned at each index of a row, one after another."""
    check_indexes(word.size, row)
    letters = word.letters
    for i in row:
        letters = turned_letters(letters, i)
    return Word(word.size, letters)


def exchange(held, i):
    """Exchange the entries number i and i + 1 of a list, counted from 1."""
    held[i - 1], held[i] = held[i], held[i - 1]


def order_of(size, row):
    """The order of a row of indexes."""
    check_size(size)
    check_indexes(size, row)
    held = list(range(1, size + 1))
    for i in row:
        exchange(held, i)
    return tuple(held)


def growth_of(size, row):
    """The growth of a row of indexes: like its order, but no two entries are exchanged back."""
    check_size(size)
    check_indexes(size, row)
    held = list(range(1, size + 1))
    for i in row:
        if held[i - 1] < held[i]:
            exchange(held, i)
    return tuple(held)


def evacuated(table):
    """The table of the mirrored reading."""
    return bumped(mirrored(table.reading()))
