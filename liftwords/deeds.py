"""Rows of deeds, and the tops and bottoms to which they lead."""

from liftwords.errors import BadDeed, Stuck
from liftwords.kinds import is_between, is_listing
from liftwords.words import bracketed, check_size

MOST_DEEDS = 1000


def is_deed(size, value):
    """Whether a value is a deed of the size."""
    return is_between(value, 1 - size, size - 1) and value != 0


def check_row(size, row):
    """Refuse any value that is no row of deeds of the size."""
    if not is_listing(row) or len(row) > MOST_DEEDS:
        raise BadDeed(None)
    for place, deed in enumerate(row):
        if not is_deed(size, deed):
            raise BadDeed(place)


def can_do(word, deed):
    """Whether one deed can be done on a word."""
    if deed > 0:
        return word.ups(deed) > 0
    return word.downs(-deed) > 0


def done(word, deed):
    """The word that comes of one deed."""
    if deed > 0:
        return word.up(deed)
    return word.down(-deed)


def steps_from(size, letters):
    """All deeds that can be done on the letters of a word, each with the letters that come of it."""
    steps = []
    for i in range(1, size):
        lows, highs = bracketed(letters, i)[1:]
        if lows:
            steps.append((i, letters[:lows[-1]] + (i + 1,) + letters[lows[-1] + 1:]))
        if highs:
            steps.append((-i, letters[:highs[0]] + (i,) + letters[highs[0] + 1:]))
    return steps


def followed(word, row):
    """How far a row of deeds leads: the word there, and the place of the deed that is stuck, or None."""
    for place, deed in enumerate(row):
        if not can_do(word, deed):
            return word, place
        word = done(word, deed)
    return word, None


def climbed(word, deeds):
    """Do always the first of some deeds that can be done, until none can: the row, and the word there."""
    row = []
    able = [deed for deed in deeds if can_do(word, deed)]
    while able:
        row.append(able[0])
        word = done(word, able[0])
        able = [deed for deed in deeds if can_do(word, deed)]
    return tuple(row), word


def all_downs(size):
    """All downs of a size, the one with the least index first."""
    return [-i for i in range(1, size)]


def all_ups(size):
    """All ups of a size, the one with the least index first."""
    return list(range(1, size))


def run(word, row):
    """The word that comes of a row of deeds."""
    check_row(word.size, row)
    reached, stuck = followed(word, row)
    if stuck is not None:
        raise Stuck(stuck)
    return reached


def can(word, row):
    """Whether a row of deeds can be done."""
    return first_stuck(word, row) is None


def first_stuck(word, row):
    """The place of the first deed of a row that cannot be done, or None."""
    check_row(word.size, row)
    return followed(word, row)[1]


def deeds_of(word):
    """The deeds that can be done on a word, ascending."""
    deeds = sorted(all_downs(word.size) + all_ups(word.size))
    return tuple([deed for deed in deeds if can_do(word, deed)])


def inverse(size, row):
    """The row of deeds that takes a row of deeds back."""
    check_size(size)
    check_row(size, row)
    return tuple([-deed for deed in row[::-1]])


def to_top(word):
    """The downs to the top, always the one with the least index that can be done."""
    return climbed(word, all_downs(word.size))[0]


def to_bottom(word):
    """The ups to the bottom, always the one with the least index that can be done."""
    return climbed(word, all_ups(word.size))[0]


def top_of(word):
    """The top to which downs lead."""
    return climbed(word, all_downs(word.size))[1]


def bottom_of(word):
    """The bottom to which ups lead."""
    return climbed(word, all_ups(word.size))[1]
