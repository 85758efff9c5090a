"""Joined houses, the houses into which they fall, and how many recordings a shape has."""

from liftwords.errors import BadShape, TooGreat
from liftwords.houses import MOST_TABLES, House, check_shape, padded, unpadded
from liftwords.kinds import is_listing
from liftwords.words import MOST_LETTERS, MOST_SIZE, bracketed, check_size

MOST_SHAPES = 8
# Numbers up to MOST_LETTERS have room side by side in one integer, and are added and compared all at once.
ROOM = 128
GUARD = 64


def packed(numbers):
    """Some numbers as one integer."""
    code = 0
    for number in numbers:
        code = code * ROOM + number
    return code


def unpacked(code, many):
    """So many numbers that were packed."""
    numbers = []
    while len(numbers) < many:
        code, number = divmod(code, ROOM)
        numbers.append(number)
    return numbers[::-1]


def check_houses(houses):
    """Refuse houses that are too great to be joined."""
    if sum([sum(house.shape) for house in houses]) > MOST_LETTERS:
        raise TooGreat(MOST_LETTERS)
    if any([house.count() > MOST_TABLES for house in houses]):
        raise TooGreat(MOST_TABLES)


def pieces_of(house):
    """By how many i + 1 are left over at each index, how many tables have which counts, all packed."""
    found = {}
    for table in house.tables():
        word = table.reading()
        downs = packed([len(bracketed(word.letters, i)[2]) for i in range(1, house.size)])
        bag = found.setdefault(downs, {})
        counts = packed(word.counts())
        bag[counts] = bag.get(counts, 0) + 1
    return found


def joined_ahead(size, pieces, tops):
    """By shapes (packed), how many tops there are when a table of a house is put ahead of some tops."""
    guards = packed([GUARD] * (size - 1))
    first = packed([1] + [0] * (size - 1))
    found = {}
    for behind, times in tops.items():
        # What each row is longer than the one below it: without the last row, less the rows without the first one.
        limits = guards + behind // ROOM - behind % first
        for downs in pieces:
            # Each guard stands as long as no number that is taken away is greater than the limit beside it.
            if (limits - downs) & guards == guards:
                for counts, many in pieces[downs].items():
                    top = behind + counts
                    found[top] = found.get(top, 0) + many * times
    return found


def fallen(size, shapes):
    """By shapes, ascending, how often the houses occur into which the joined houses of some shapes fall."""
    check_size(size)
    if not is_listing(shapes) or len(shapes) > MOST_SHAPES:
        raise BadShape(shapes)
    houses = [House(size, shape) for shape in shapes]
    check_houses(houses)
    # The order does not count. Of the house that comes last only the top is wanted, and the fewer tops there are
    # behind a house, the more tables may it have.
    ranked = [house.shape for house in sorted(houses, key=lambda house: house.count(), reverse=True)]
    pieces = {shape: pieces_of(House(size, shape)) for shape in sorted(set(ranked[1:]))}
    tops = {packed(padded(ranked[0] if ranked else (), size)): 1}
    for shape in ranked[1:]:
        tops = joined_ahead(size, pieces[shape], tops)
    found = {unpadded(unpacked(code, size)): tops[code] for code in tops}
    return {shape: found[shape] for shape in sorted(found)}


def recordings(shape):
    """The number of recording tables of a shape."""
    check_shape(MOST_SIZE, shape)
    above = below = 1
    letters = 0
    for row, length in enumerate(shape):
        for column in range(length):
            letters += 1
            above *= letters
            below *= length - column + len([lower for lower in shape[row + 1:] if lower > column])
    return above // below
