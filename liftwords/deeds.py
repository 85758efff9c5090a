"""Rows of deeds, and the tops and bottoms to which they lead."""

from liftwords.errors import BadDeed, Stuck
from liftwords.kinds import is_between, is_listing
from liftwords.words import Word, bracketed, check_size

MOST_DEEDS = 1000


def is_deed(size, value):
    """Whether a value is a deed of the size."""
    return is_between(value, 1 - size, size - 1) and value != 0


def check_row(size, row):
    """Refuse any value that is no row of deeds of the size."""
    if not is_listing(row) or len(row) > MOST_DEEDS:
        raise BadDeed(None)
    for place, deed in enumerate(row):
        if not is_deed(size, deed):
            raise BadDeed(place)


def steps_from(size, letters):
    """All deeds that can be done on the letters of a word, each with the letters that come of it."""
    steps = []
    for i in range(1, size):
        pairs, lows, highs = bracketed(letters, i)
        if lows:
            steps.append((i, letters[:lows[-1]] + (i + 1,) + letters[lows[-1] + 1:]))
        if highs:
            steps.append((-i, letters[:highs[0]] + (i,) + letters[highs[0] + 1:]))
    return steps


class Walk:
    """A word that deeds change, with what is left over at each index as long as that is known."""

    def __init__(self, word):
        self.size = word.size
        self.held = list(word.letters)
        # By index, the places left over, and at how many of them, the first ones, the letter is the index.
        self.free = [None] * (word.size + 1)
        self.low = [0] * (word.size + 1)

    def look(self, i):
        """Find out what is left over at an index."""
        pairs, lows, highs = bracketed(self.held, i)
        self.free[i] = lows + highs
        self.low[i] = len(lows)

    def go(self, deed):
        """Do a deed if it can be done, and tell whether it could."""
        i = abs(deed)
        if self.free[i] is None:
            self.look(i)
        free = self.free[i]
        low = self.low[i]
        if low == (0 if deed > 0 else len(free)):
            return False
        if deed > 0:
            self.low[i] = low - 1
            self.held[free[low - 1]] = i + 1
        else:
            self.low[i] = low + 1
            self.held[free[low]] = i
        # The same places stay left over at this index, but not at the indexes beside it.
        self.free[i - 1] = self.free[i + 1] = None
        return True

    def reached(self):
        """The word that has come so far."""
        return Word(self.size, self.held)


def followed(word, row):
    """How far a row of deeds leads: the walk, and the place of the deed that is stuck, or None."""
    walk = Walk(word)
    for place, deed in enumerate(row):
        if not walk.go(deed):
            return walk, place
    return walk, None


def climbed(word, deeds):
    """Do always the first of some deeds that can be done, until none can: the row, and the word there."""
    walk = Walk(word)
    row = []
    at = 0
    while at < len(deeds):
        if walk.go(deeds[at]):
            row.append(deeds[at])
            at = 0
        else:
            at += 1
    return tuple(row), walk.reached()


def all_downs(size):
    """All downs of a size, the one with the least index first."""
    return [-i for i in range(1, size)]


def all_ups(size):
    """All ups of a size, the one with the least index first."""
    return list(range(1, size))


def run(word, row):
    """The word that comes of a row of deeds."""
    check_row(word.size, row)
    walk, stuck = followed(word, row)
    if stuck is not None:
        raise Stuck(stuck)
    return walk.reached()


def can(word, row):
    """Whether a row of deeds can be done."""
    return first_stuck(word, row) is None


def first_stuck(word, row):
    """The place of the first deed of a row that cannot be done, or None."""
    check_row(word.size, row)
    return followed(word, row)[1]


def deeds_of(word):
    """The deeds that can be done on a word, ascending."""
    return tuple(sorted([deed for deed, after in steps_from(word.size, word.letters)]))


def inverse(size, row):
    """The row of deeds that takes a row of deeds back."""
    check_size(size)
    check_row(size, row)
    return tuple([-deed for deed in row[::-1]])


def to_top(word):
    """The downs to the top, always the one with the least index that can be done."""
    return climbed(word, all_downs(word.size))[0]


def to_bottom(word):
    """The ups to the bottom, always the one with the least index that can be done."""
    return climbed(word, all_ups(word.size))[0]


def top_of(word):
    """The top to which downs lead."""
    return climbed(word, all_downs(word.size))[1]


def bottom_of(word):
    """The bottom to which ups lead."""
    return climbed(word, all_ups(word.size))[1]
