"""A slow and plain reading of points [18], [24] and [41] to [43], of the papers, and words for them."""

from functools import lru_cache

from tests.plain import plain_deed, plain_spare
from tests.plain_tables import plain_move, plain_reading, plain_table, plain_top, plain_trimmed


@lru_cache(maxsize=None)
def plain_after(size, letters):
    """By deeds, the letters that come of each deed that can be done."""
    found = {deed: plain_deed(letters, deed) for deed in range(1 - size, size) if deed != 0}
    return {deed: after for deed, after in found.items() if after is not None}


def plain_parting(size, one, other):
    """A shortest row of deeds that can be done on exactly one of two words, by a walk over all pairs, or None."""
    seen = {(one, other)}
    level = [(one, other, ())]
    while level:
        further = []
        for near, far, row in level:
            here, there = plain_after(size, near), plain_after(size, far)
            for deed in sorted(here.keys() ^ there.keys()):
                return row + (deed,)
            for deed in here:
                pair = (here[deed], there[deed])
                if pair not in seen:
                    seen.add(pair)
                    further.append((*pair, row + (deed,)))
        level = further
    return None


def plain_alike(size, one, other):
    """Whether the trimmed tables of two words are equal, as [24] says."""
    return plain_trimmed(size, plain_table(one)[0]) == plain_trimmed(size, plain_table(other)[0])


def plain_stuck(letters, row):
    """Whether a deed of a row cannot be done."""
    for deed in row:
        letters = plain_deed(letters, deed)
        if letters is None:
            return True
    return False


def plain_leads(size, one, other, moves):
    """Whether moves of the right form can be made, through at most 40 letters, and lead from one word to another."""
    for move in moves:
        one = plain_move(size, one, move)
        if one is None or len(one) > 40:
            return False
    return one == other


def plain_turned(letters, i):
    """The letters turned at an index."""
    lows, highs = plain_spare(letters, i)
    turned = list(letters)
    places = sorted(lows + highs)
    for place in places[:len(highs)]:
        turned[place] = i
    for place in places[len(highs):]:
        turned[place] = i + 1
    return tuple(turned)


def plain_cut(letters, shape):
    """The rows of a shape whose reading has these letters."""
    rows = []
    for length in shape:
        rows.append(letters[len(letters) - length:])
        letters = letters[:len(letters) - length]
    return tuple(rows)


@lru_cache(maxsize=None)
def plain_reach(shape, row):
    """The rows of all tables of a reach, by ups from the top, index by index."""
    if not row:
        return frozenset([plain_top(shape)])
    found = set()
    for rows in plain_reach(shape, row[:-1]):
        letters = plain_reading(rows)
        while letters is not None:
            found.add(plain_cut(letters, shape))
            letters = plain_deed(letters, row[-1])
    return frozenset(found)


def plain_far_end(shape, row):
    """The rows of the table that comes of all ups that can be done, index by index."""
    letters = plain_reading(plain_top(shape))
    for i in row:
        after = letters
        while after is not None:
            letters, after = after, plain_deed(after, i)
    return plain_cut(letters, shape)


def plain_order_of(size, row, growing):
    """The order of a row of indexes, or its growth."""
    entries = list(range(1, size + 1))
    for i in row:
        if not growing or entries[i - 1] < entries[i]:
            entries[i - 1], entries[i] = entries[i], entries[i - 1]
    return tuple(entries)


def full_column(size):
    """The letters size, size - 1, .., 1."""
    return tuple(range(size, 0, -1))


def with_column(size, letters, place):
    """The letters with a full column put in ahead of a place."""
    return letters[:place] + full_column(size) + letters[place:]


def exchanges(size, letters):
    """What comes of each move first and last that can be made."""
    found = [plain_move(size, letters, (kind, place)) for kind in ("first", "last") for place in range(len(letters))]
    return [after for after in found if after is not None]


def wandered(size, letters, steps):
    """Letters to which some moves first and last lead, the same ones each time."""
    for step in range(steps):
        found = exchanges(size, letters)
        if not found:
            break
        letters = found[(7 * step + 3) % len(found)]
    return letters
